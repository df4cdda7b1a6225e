import Derived.Test.YtejfiegmdllfbaaGreatDoorKlAFallsVRawZ
namespace Go.Proofs.YtejfiegmdllfbaaGreatDoor.Kl
open Go Go.RowKit
set_option maxRecDepth 100000
set_option maxHeartbeats 8000000
theorem falls_long  (s0 s1 s2 s3 s4 s5 s6 s7 s8:ByteArray) (hl:¬ (s0.size≤24∧s1.size≤24∧s2.size≤24∧s3.size≤24∧s4.size≤24∧s5.size≤24∧s6.size≤24∧s7.size≤24∧s8.size≤24)) (ms0:s0.size≤9223372036854775807) (ms1:s1.size≤9223372036854775807) (ms2:s2.size≤9223372036854775807) (ms3:s3.size≤9223372036854775807) (ms4:s4.size≤9223372036854775807) (ms5:s5.size≤9223372036854775807) (ms6:s6.size≤9223372036854775807) (ms7:s7.size≤9223372036854775807) (ms8:s8.size≤9223372036854775807) (w:World) (R:EnvV w) :
   Calls Tryz.prog 9 #[.agg #[.string s0,.string s1,.string s2],.agg #[.string s3,.string s4,.string s5],.agg #[.string s6,.string s7,.string s8]] w (Ret w (.bool true)):=by
 have c1:=known15_any
 have c2:=short9 s0 s1 s2 s3 s4 s5 s6 s7 s8 false ⟨(fun h=>by cases h),fun k=>absurd k hl⟩ ms0 ms1 ms2 ms3 ms4 ms5 ms6 ms7 ms8
 have C1:=Lib.hid c1
 have C2:=Lib.hid c2
 clear c1 c2 hl ms0 ms1 ms2 ms3 ms4 ms5 ms6 ms7 ms8
 have hb:=Below.refl w.heap.size w
 go_enter Tryz.func9,Tryz.ntmps9
 go_upto_region 1 with fail
 refine wp_alloc3 (fun w1 a0 a1 a2 hk=>?_)
 replace hb:=hb.trans (hk.mono hb.size)
 clear hk
 obtain ⟨Aa,Ab,Ac⟩:=ce3 a0
 obtain ⟨Ad,Ae,Af⟩:=ce3 a1
 obtain ⟨Ag,Ah,Ai⟩:=ce3 a2
 go_wp2_with ((first | (go_at_call 11;first | with_reducible refine (chVB hb R C1).mono ?_ | with_reducible refine (chVB hb R C1).mono ?_) | (go_at_call 12;with_reducible refine (zL hb (C2.out _ (R.below hb))).mono ?_));clear hb;rintro e w1 ⟨rfl,hk,hb⟩;clear Aa Ab Ac Ad Ae Af Ag Ah Ai;replace a0:=zB hk a0;replace a1:=zB hk a1;replace a2:=zB hk a2;obtain ⟨Aa,Ab,Ac⟩:=ce3 a0;obtain ⟨Ad,Ae,Af⟩:=ce3 a1;obtain ⟨Ag,Ah,Ai⟩:=ce3 a2;clear hk)
 first | go_ret | go_ret2 | go_ret3
 exact ⟨rfl,hb⟩
theorem falls_1A  (s0 s1 s2 s3 s4 s5 s6 s7 s8:ByteArray) (hs:s0.size≤24∧s1.size≤24∧s2.size≤24∧s3.size≤24∧s4.size≤24∧s5.size≤24∧s6.size≤24∧s7.size≤24∧s8.size≤24) (nv dv:Int) (cA:CV 36 #[.agg #[.string s0,.string s1,.string s2],.agg #[.string s3,.string s4]] (.tuple #[.string ⟨#[]⟩,.int .i64 nv])) (cN:CV 16 #[.agg #[.string s0,.string s1,.string s2]] (.int .i64 nv)) (cD:CV 27 #[.agg #[.string s3,.string s4]] (.int .i64 dv)) (cT:CV 38 #[.agg #[.string s3,.string s4,.string s5],.agg #[.string s6,.string s7,.string s8]] (.tuple #[.agg #[.string ⟨#[]⟩,.string ⟨#[]⟩,.string ⟨#[]⟩],.int .i64 dv])) (nnv:nv≠0) (ndv:dv≠0) (w:World) (R:EnvV w) :
   Calls Tryz.prog 9 #[.agg #[.string s0,.string s1,.string s2],.agg #[.string s3,.string s4,.string s5],.agg #[.string s6,.string s7,.string s8]] w (Ret w (.bool true)):=by
 have G_cD:=Lib.hid cD
 have c1:=known15_any
 have c2:∀ w,EnvV w→Calls Tryz.prog 12 #[.slice (some ⟨w.heap.size,0,none⟩) 9 9] (w.alloc (Obj.cells #[Value.string s0,Value.string s1,Value.string s2,Value.string s3,Value.string s4,Value.string s5,Value.string s6,Value.string s7,Value.string s8] 22)) (Ret w (.bool true)):=fun w R=>short9 s0 s1 s2 s3 s4 s5 s6 s7 s8 true ⟨fun _=>hs,fun _=>rfl⟩ (Nat.le_trans hs.1 (by decide)) (Nat.le_trans hs.2.1 (by decide)) (Nat.le_trans hs.2.2.1 (by decide)) (Nat.le_trans hs.2.2.2.1 (by decide)) (Nat.le_trans hs.2.2.2.2.1 (by decide)) (Nat.le_trans hs.2.2.2.2.2.1 (by decide)) (Nat.le_trans hs.2.2.2.2.2.2.1 (by decide)) (Nat.le_trans hs.2.2.2.2.2.2.2.1 (by decide)) (Nat.le_trans hs.2.2.2.2.2.2.2.2 (by decide)) w R
 have c3:=cA
 have c4:=cN
 have c5:=cT
 have eqnv:(nv == 0)=false:=beq_eq_false_iff_ne.2 nnv
 have pqnv:¬ nv=0:=nnv
 have eqdv:(dv == 0)=false:=beq_eq_false_iff_ne.2 ndv
 have pqdv:¬ dv=0:=ndv
 have C1:=Lib.hid c1
 have C2:=Lib.hid c2
 have C3:=Lib.hid c3
 have C4:=Lib.hid c4
 have C5:=Lib.hid c5
 clear c1 c2 c3 c4 c5 cA cN cD cT hs nnv ndv
 have hb:=Below.refl w.heap.size w
 go_enter Tryz.func9,Tryz.ntmps9
 go_upto_region 1 with fail
 refine wp_alloc3 (fun w1 a0 a1 a2 hk=>?_)
 replace hb:=hb.trans (hk.mono hb.size)
 clear hk
 obtain ⟨Aq,Ar,As⟩:=ce3 a0
 obtain ⟨Aa,Ab,Ac⟩:=ce3 a1
 obtain ⟨Ad,Ae,Af⟩:=ce3 a2
 go_upto_region 14 with (first | ((first | (go_at_call 11;with_reducible refine (chVB hb R C1).mono ?_) | (go_at_call 12;with_reducible refine (zL hb (C2.out _ (R.below hb))).mono ?_) | (go_at_call 36;with_reducible refine (chVB hb R C3).mono ?_) | (go_at_call 16;with_reducible refine (chVB hb R C4).mono ?_));clear hb;rintro e w1 ⟨rfl,hk,hb⟩;clear Aq Ar As Aa Ab Ac Ad Ae Af;replace a0:=zB hk a0;replace a1:=zB hk a1;replace a2:=zB hk a2;obtain ⟨Aq,Ar,As⟩:=ce3 a0;obtain ⟨Aa,Ab,Ac⟩:=ce3 a1;obtain ⟨Ad,Ae,Af⟩:=ce3 a2;clear hk) | (go_at_call 38;with_reducible refine (chVB hb R C5).mono ?_;clear hb;rintro e w1 ⟨rfl,hk,hb⟩;clear Aa Ab Ac Ad Ae Af;replace a1:=zB hk a1;replace a2:=zB hk a2;obtain ⟨Aa,Ab,Ac⟩:=ce3 a1;obtain ⟨Ad,Ae,Af⟩:=ce3 a2;clear hk))
 clear Aq Ar As a0
 refine wp_alloc1 (fun w1 Ag hk=>?_)
 clear Aa Ab Ac Ad Ae Af
 replace a1:=zB hk a1
 replace a2:=zB hk a2
 obtain ⟨Aa,Ab,Ac⟩:=ce3 a1
 obtain ⟨Ad,Ae,Af⟩:=ce3 a2
 replace hb:=hb.trans (hk.mono hb.size)
 clear hk
 obtain ⟨Ah,Ai,Aj⟩:=ce3 Ag
 go_wp2
 refine wp_alloc1 (fun w1 alp0 hk=>?_)
 clear Aa Ab Ac Ad Ae Af Ah Ai Aj
 replace a1:=zB hk a1
 replace a2:=zB hk a2
 replace Ag:=zB hk Ag
 obtain ⟨Aa,Ab,Ac⟩:=ce3 a1
 obtain ⟨Ad,Ae,Af⟩:=ce3 a2
 obtain ⟨Ah,Ai,Aj⟩:=ce3 Ag
 replace hb:=hb.trans (hk.mono hb.size)
 clear hk
 obtain ⟨Ak,Al,Am,An,Ao,Ap⟩:=ce6 alp0
 have HA1:=Lib.hid a1
 have HA2:=Lib.hid a2
 have HAg14_0:=Lib.hid Ag
 have HAlp0:=Lib.hid alp0
 have HB:=Lib.hid hb
 clear hb Aa Ab Ac Ad Ae Af Ah Ai Aj Ak Al Am An Ao Ap a1 a2 Ag alp0
 go_loopw [100,9] (fun i e wr=>((i = .int .i64 0∧e = .int .i64 0)∨(i = .int .i64 1∧e = .int .i64 dv)∨(i = .int .i64 2∧e = .int .i64 dv))∧Below w1.heap.size w1 wr) (fun i _ _=>2 - (intOf i).toNat)
 case atStart=>exact ⟨Or.inl ⟨rfl,rfl⟩,Below.refl _ _⟩
 case round =>
   obtain ⟨⟨rfl,rfl⟩ | ⟨rfl,rfl⟩ | ⟨rfl,rfl⟩,hw⟩:=hrel
   · have y0:=zC hw (zA HAlp0.out:w1.cell? ⟨_,0,none⟩=some (Value.string s3))
     have y1:=zC hw (zA HAlp0.out:w1.cell? ⟨_,1,none⟩=some (Value.string s4))
     have y2:=zC hw (zA HAlp0.out:w1.cell? ⟨_,2,none⟩=some (Value.string s5))
     go_wp2_with (go_at_call 27;(refine calls_alloc1 (fun w9 a9 hk=>?_));replace hw:=hw.trans (hk.mono hw.size);clear hk;(with_reducible refine (zK hw (G_cD.out _ (R.below (HB.out.trans (hw.mono HB.out.size))))).mono ?_);clear hw;rintro e w8 ⟨rfl,hk,hw⟩;replace a9:=zB hk a9;clear hk;have x9:w8.cell? ⟨_,2,none⟩=some (Value.string s5):=zA a9;clear a9)
     go_roundw
     case rel=>exact ⟨Or.inr (Or.inl ⟨rfl,rfl⟩),hw⟩
     case measure=>simp [intOf]
   · have y0:=zC hw (zA HAlp0.out:w1.cell? ⟨_,3,none⟩=some (Value.string s6))
     have y1:=zC hw (zA HAlp0.out:w1.cell? ⟨_,4,none⟩=some (Value.string s7))
     have y2:=zC hw (zA HAlp0.out:w1.cell? ⟨_,5,none⟩=some (Value.string s8))
     go_wp2
     go_roundw
     case rel=>exact ⟨Or.inr (Or.inr ⟨rfl,rfl⟩),by first | exact hw | exact hw.alloc hw.size _⟩
     case measure=>simp [intOf]
   · obtain ⟨w1,ew⟩:∃ w1,w1=wr:=⟨_,rfl⟩
     subst ew
     have hb:=HB.out.trans (hw.mono HB.out.size)
     have a1:=zB hw HA1.out
     obtain ⟨Aa,Ab,Ac⟩:=ce3 a1
     have a2:=zB hw HA2.out
     obtain ⟨Ad,Ae,Af⟩:=ce3 a2
     have Ag:=zB hw HAg14_0.out
     obtain ⟨Ah,Ai,Aj⟩:=ce3 Ag
     have alp0:=zB hw HAlp0.out
     obtain ⟨Ak,Al,Am,An,Ao,Ap⟩:=ce6 alp0
     clear hw
     go_upto_region 23 with fail
     go_quiet (fail)
     replace hb:=hb.trans ((below_drewN w1 nq).mono hb.size)
     replace Aa:=(show (w1.drewN nq).cell? _=_ from Aa)
     replace Ab:=(show (w1.drewN nq).cell? _=_ from Ab)
     replace Ac:=(show (w1.drewN nq).cell? _=_ from Ac)
     replace a1:=(show (w1.drewN nq).heap[_]? = _ from a1)
     replace Ad:=(show (w1.drewN nq).cell? _=_ from Ad)
     replace Ae:=(show (w1.drewN nq).cell? _=_ from Ae)
     replace Af:=(show (w1.drewN nq).cell? _=_ from Af)
     replace a2:=(show (w1.drewN nq).heap[_]? = _ from a2)
     replace Ah:=(show (w1.drewN nq).cell? _=_ from Ah)
     replace Ai:=(show (w1.drewN nq).cell? _=_ from Ai)
     replace Aj:=(show (w1.drewN nq).cell? _=_ from Aj)
     replace Ag:=(show (w1.drewN nq).heap[_]? = _ from Ag)
     replace Ak:=(show (w1.drewN nq).cell? _=_ from Ak)
     replace Al:=(show (w1.drewN nq).cell? _=_ from Al)
     replace Am:=(show (w1.drewN nq).cell? _=_ from Am)
     replace An:=(show (w1.drewN nq).cell? _=_ from An)
     replace Ao:=(show (w1.drewN nq).cell? _=_ from Ao)
     replace Ap:=(show (w1.drewN nq).cell? _=_ from Ap)
     replace alp0:=(show (w1.drewN nq).heap[_]? = _ from alp0)
     obtain ⟨w1,hw2⟩:∃ w2,w1.drewN nq=w2:=⟨_,rfl⟩
     rw [hw2] at hb Aa Ab Ac a1 Ad Ae Af a2 Ah Ai Aj Ag Ak Al Am An Ao Ap alp0 ⊢
     clear hw2
     go_wp2
     first | go_ret | go_ret2 | go_ret3
     exact ⟨rfl,hb⟩
theorem falls_2A  (s0 s1 s2 s3 s4 s5 s6 s7 s8:ByteArray) (hs:s0.size≤24∧s1.size≤24∧s2.size≤24∧s3.size≤24∧s4.size≤24∧s5.size≤24∧s6.size≤24∧s7.size≤24∧s8.size≤24) (dv:Int) (cA:CV 36 #[.agg #[.string s0,.string s1,.string s2],.agg #[.string s3,.string s4]] (.tuple #[.string ⟨#[]⟩,.int .i64 dv])) (cN:CV 16 #[.agg #[.string s0,.string s1,.string s2]] (.int .i64 0)) (cD:CV 27 #[.agg #[.string s3,.string s4]] (.int .i64 dv)) (cT:CV 38 #[.agg #[.string s3,.string s4,.string s5],.agg #[.string s6,.string s7,.string s8]] (.tuple #[.agg #[.string ⟨#[]⟩,.string ⟨#[]⟩,.string ⟨#[]⟩],.int .i64 dv])) (ndv:dv≠0) (w:World) (R:EnvV w) :
   Calls Tryz.prog 9 #[.agg #[.string s0,.string s1,.string s2],.agg #[.string s3,.string s4,.string s5],.agg #[.string s6,.string s7,.string s8]] w (Ret w (.bool true)):=by
 have G_cD:=Lib.hid cD
 have c1:=known15_any
 have c2:∀ w,EnvV w→Calls Tryz.prog 12 #[.slice (some ⟨w.heap.size,0,none⟩) 9 9] (w.alloc (Obj.cells #[Value.string s0,Value.string s1,Value.string s2,Value.string s3,Value.string s4,Value.string s5,Value.string s6,Value.string s7,Value.string s8] 22)) (Ret w (.bool true)):=fun w R=>short9 s0 s1 s2 s3 s4 s5 s6 s7 s8 true ⟨fun _=>hs,fun _=>rfl⟩ (Nat.le_trans hs.1 (by decide)) (Nat.le_trans hs.2.1 (by decide)) (Nat.le_trans hs.2.2.1 (by decide)) (Nat.le_trans hs.2.2.2.1 (by decide)) (Nat.le_trans hs.2.2.2.2.1 (by decide)) (Nat.le_trans hs.2.2.2.2.2.1 (by decide)) (Nat.le_trans hs.2.2.2.2.2.2.1 (by decide)) (Nat.le_trans hs.2.2.2.2.2.2.2.1 (by decide)) (Nat.le_trans hs.2.2.2.2.2.2.2.2 (by decide)) w R
 have c3:=cA
 have c4:=cN
 have c5:=cD
 have c6:=cT
 have eqdv:(dv == 0)=false:=beq_eq_false_iff_ne.2 ndv
 have pqdv:¬ dv=0:=ndv
 have C1:=Lib.hid c1
 have C2:=Lib.hid c2
 have C3:=Lib.hid c3
 have C4:=Lib.hid c4
 have C5:=Lib.hid c5
 have C6:=Lib.hid c6
 clear c1 c2 c3 c4 c5 c6 cA cN cD cT hs ndv
 have hb:=Below.refl w.heap.size w
 go_enter Tryz.func9,Tryz.ntmps9
 go_upto_region 1 with fail
 refine wp_alloc3 (fun w1 a0 a1 a2 hk=>?_)
 replace hb:=hb.trans (hk.mono hb.size)
 clear hk
 obtain ⟨Aq,Ar,As⟩:=ce3 a0
 obtain ⟨Aa,Ab,Ac⟩:=ce3 a1
 obtain ⟨Ad,Ae,Af⟩:=ce3 a2
 go_upto_region 14 with (first | ((first | (go_at_call 11;with_reducible refine (chVB hb R C1).mono ?_) | (go_at_call 12;with_reducible refine (zL hb (C2.out _ (R.below hb))).mono ?_) | (go_at_call 36;with_reducible refine (chVB hb R C3).mono ?_) | (go_at_call 16;with_reducible refine (chVB hb R C4).mono ?_) | (go_at_call 27;with_reducible refine (chVB hb R C5).mono ?_));clear hb;rintro e w1 ⟨rfl,hk,hb⟩;clear Aq Ar As Aa Ab Ac Ad Ae Af;replace a0:=zB hk a0;replace a1:=zB hk a1;replace a2:=zB hk a2;obtain ⟨Aq,Ar,As⟩:=ce3 a0;obtain ⟨Aa,Ab,Ac⟩:=ce3 a1;obtain ⟨Ad,Ae,Af⟩:=ce3 a2;clear hk) | (go_at_call 38;with_reducible refine (chVB hb R C6).mono ?_;clear hb;rintro e w1 ⟨rfl,hk,hb⟩;clear Aa Ab Ac Ad Ae Af;replace a1:=zB hk a1;replace a2:=zB hk a2;obtain ⟨Aa,Ab,Ac⟩:=ce3 a1;obtain ⟨Ad,Ae,Af⟩:=ce3 a2;clear hk))
 clear Aq Ar As a0
 refine wp_alloc1 (fun w1 Ag hk=>?_)
 clear Aa Ab Ac Ad Ae Af
 replace a1:=zB hk a1
 replace a2:=zB hk a2
 obtain ⟨Aa,Ab,Ac⟩:=ce3 a1
 obtain ⟨Ad,Ae,Af⟩:=ce3 a2
 replace hb:=hb.trans (hk.mono hb.size)
 clear hk
 obtain ⟨Ah,Ai,Aj⟩:=ce3 Ag
 go_wp2
 refine wp_alloc1 (fun w1 alp0 hk=>?_)
 clear Aa Ab Ac Ad Ae Af Ah Ai Aj
 replace a1:=zB hk a1
 replace a2:=zB hk a2
 replace Ag:=zB hk Ag
 obtain ⟨Aa,Ab,Ac⟩:=ce3 a1
 obtain ⟨Ad,Ae,Af⟩:=ce3 a2
 obtain ⟨Ah,Ai,Aj⟩:=ce3 Ag
 replace hb:=hb.trans (hk.mono hb.size)
 clear hk
 obtain ⟨Ak,Al,Am,An,Ao,Ap⟩:=ce6 alp0
 have HA1:=Lib.hid a1
 have HA2:=Lib.hid a2
 have HAg14_0:=Lib.hid Ag
 have HAlp0:=Lib.hid alp0
 have HB:=Lib.hid hb
 clear hb Aa Ab Ac Ad Ae Af Ah Ai Aj Ak Al Am An Ao Ap a1 a2 Ag alp0
 go_loopw [100,9] (fun i e wr=>((i = .int .i64 0∧e = .int .i64 0)∨(i = .int .i64 1∧e = .int .i64 dv)∨(i = .int .i64 2∧e = .int .i64 dv))∧Below w1.heap.size w1 wr) (fun i _ _=>2 - (intOf i).toNat)
 case atStart=>exact ⟨Or.inl ⟨rfl,rfl⟩,Below.refl _ _⟩
 case round =>
   obtain ⟨⟨rfl,rfl⟩ | ⟨rfl,rfl⟩ | ⟨rfl,rfl⟩,hw⟩:=hrel
   · have y0:=zC hw (zA HAlp0.out:w1.cell? ⟨_,0,none⟩=some (Value.string s3))
     have y1:=zC hw (zA HAlp0.out:w1.cell? ⟨_,1,none⟩=some (Value.string s4))
     have y2:=zC hw (zA HAlp0.out:w1.cell? ⟨_,2,none⟩=some (Value.string s5))
     go_wp2_with (go_at_call 27;(refine calls_alloc1 (fun w9 a9 hk=>?_));replace hw:=hw.trans (hk.mono hw.size);clear hk;(with_reducible refine (zK hw (G_cD.out _ (R.below (HB.out.trans (hw.mono HB.out.size))))).mono ?_);clear hw;rintro e w8 ⟨rfl,hk,hw⟩;replace a9:=zB hk a9;clear hk;have x9:w8.cell? ⟨_,2,none⟩=some (Value.string s5):=zA a9;clear a9)
     go_roundw
     case rel=>exact ⟨Or.inr (Or.inl ⟨rfl,rfl⟩),hw⟩
     case measure=>simp [intOf]
   · have y0:=zC hw (zA HAlp0.out:w1.cell? ⟨_,3,none⟩=some (Value.string s6))
     have y1:=zC hw (zA HAlp0.out:w1.cell? ⟨_,4,none⟩=some (Value.string s7))
     have y2:=zC hw (zA HAlp0.out:w1.cell? ⟨_,5,none⟩=some (Value.string s8))
     go_wp2
     go_roundw
     case rel=>exact ⟨Or.inr (Or.inr ⟨rfl,rfl⟩),by first | exact hw | exact hw.alloc hw.size _⟩
     case measure=>simp [intOf]
   · obtain ⟨w1,ew⟩:∃ w1,w1=wr:=⟨_,rfl⟩
     subst ew
     have hb:=HB.out.trans (hw.mono HB.out.size)
     have a1:=zB hw HA1.out
     obtain ⟨Aa,Ab,Ac⟩:=ce3 a1
     have a2:=zB hw HA2.out
     obtain ⟨Ad,Ae,Af⟩:=ce3 a2
     have Ag:=zB hw HAg14_0.out
     obtain ⟨Ah,Ai,Aj⟩:=ce3 Ag
     have alp0:=zB hw HAlp0.out
     obtain ⟨Ak,Al,Am,An,Ao,Ap⟩:=ce6 alp0
     clear hw
     go_upto_region 23 with fail
     go_quiet (fail)
     replace hb:=hb.trans ((below_drewN w1 nq).mono hb.size)
     replace Aa:=(show (w1.drewN nq).cell? _=_ from Aa)
     replace Ab:=(show (w1.drewN nq).cell? _=_ from Ab)
     replace Ac:=(show (w1.drewN nq).cell? _=_ from Ac)
     replace a1:=(show (w1.drewN nq).heap[_]? = _ from a1)
     replace Ad:=(show (w1.drewN nq).cell? _=_ from Ad)
     replace Ae:=(show (w1.drewN nq).cell? _=_ from Ae)
     replace Af:=(show (w1.drewN nq).cell? _=_ from Af)
     replace a2:=(show (w1.drewN nq).heap[_]? = _ from a2)
     replace Ah:=(show (w1.drewN nq).cell? _=_ from Ah)
     replace Ai:=(show (w1.drewN nq).cell? _=_ from Ai)
     replace Aj:=(show (w1.drewN nq).cell? _=_ from Aj)
     replace Ag:=(show (w1.drewN nq).heap[_]? = _ from Ag)
     replace Ak:=(show (w1.drewN nq).cell? _=_ from Ak)
     replace Al:=(show (w1.drewN nq).cell? _=_ from Al)
     replace Am:=(show (w1.drewN nq).cell? _=_ from Am)
     replace An:=(show (w1.drewN nq).cell? _=_ from An)
     replace Ao:=(show (w1.drewN nq).cell? _=_ from Ao)
     replace Ap:=(show (w1.drewN nq).cell? _=_ from Ap)
     replace alp0:=(show (w1.drewN nq).heap[_]? = _ from alp0)
     obtain ⟨w1,hw2⟩:∃ w2,w1.drewN nq=w2:=⟨_,rfl⟩
     rw [hw2] at hb Aa Ab Ac a1 Ad Ae Af a2 Ah Ai Aj Ag Ak Al Am An Ao Ap alp0 ⊢
     clear hw2
     go_wp2
     first | go_ret | go_ret2 | go_ret3
     exact ⟨rfl,hb⟩
theorem falls_1B  (s0 s1 s2 s3 s4 s5 s6 s7 s8:ByteArray) (hs:s0.size≤24∧s1.size≤24∧s2.size≤24∧s3.size≤24∧s4.size≤24∧s5.size≤24∧s6.size≤24∧s7.size≤24∧s8.size≤24) (nv:Int) (cA:CV 36 #[.agg #[.string s0,.string s1,.string s2],.agg #[.string s3,.string s4]] (.tuple #[.string ⟨#[]⟩,.int .i64 nv])) (cN:CV 16 #[.agg #[.string s0,.string s1,.string s2]] (.int .i64 nv)) (cD:CV 27 #[.agg #[.string s3,.string s4]] (.int .i64 0)) (cR1:∀ w,EnvV w→Calls Tryz.prog 21 #[.slice (some ⟨w.heap.size,0,none⟩) 1 1] (w.alloc (Obj.cells #[Value.string s5] 22)) (Ret w (.bool false))) (cT:CV 38 #[.agg #[.string s3,.string s4,.string s5],.agg #[.string s6,.string s7,.string s8]] (.tuple #[.agg #[.string ⟨#[]⟩,.string ⟨#[]⟩,.string ⟨#[]⟩],.int .i64 2])) (nnv:nv≠0) (w:World) (R:EnvV w) :
   Calls Tryz.prog 9 #[.agg #[.string s0,.string s1,.string s2],.agg #[.string s3,.string s4,.string s5],.agg #[.string s6,.string s7,.string s8]] w (Ret w (.bool true)):=by
 have G_cD:=Lib.hid cD
 have G_cR1:=Lib.hid cR1
 have c1:=known15_any
 have c2:∀ w,EnvV w→Calls Tryz.prog 12 #[.slice (some ⟨w.heap.size,0,none⟩) 9 9] (w.alloc (Obj.cells #[Value.string s0,Value.string s1,Value.string s2,Value.string s3,Value.string s4,Value.string s5,Value.string s6,Value.string s7,Value.string s8] 22)) (Ret w (.bool true)):=fun w R=>short9 s0 s1 s2 s3 s4 s5 s6 s7 s8 true ⟨fun _=>hs,fun _=>rfl⟩ (Nat.le_trans hs.1 (by decide)) (Nat.le_trans hs.2.1 (by decide)) (Nat.le_trans hs.2.2.1 (by decide)) (Nat.le_trans hs.2.2.2.1 (by decide)) (Nat.le_trans hs.2.2.2.2.1 (by decide)) (Nat.le_trans hs.2.2.2.2.2.1 (by decide)) (Nat.le_trans hs.2.2.2.2.2.2.1 (by decide)) (Nat.le_trans hs.2.2.2.2.2.2.2.1 (by decide)) (Nat.le_trans hs.2.2.2.2.2.2.2.2 (by decide)) w R
 have c3:=cA
 have c4:=cN
 have c5:=cT
 have eqnv:(nv == 0)=false:=beq_eq_false_iff_ne.2 nnv
 have pqnv:¬ nv=0:=nnv
 have C1:=Lib.hid c1
 have C2:=Lib.hid c2
 have C3:=Lib.hid c3
 have C4:=Lib.hid c4
 have C5:=Lib.hid c5
 clear c1 c2 c3 c4 c5 cA cN cD cR1 cT hs nnv
 have hb:=Below.refl w.heap.size w
 go_enter Tryz.func9,Tryz.ntmps9
 go_upto_region 1 with fail
 refine wp_alloc3 (fun w1 a0 a1 a2 hk=>?_)
 replace hb:=hb.trans (hk.mono hb.size)
 clear hk
 obtain ⟨Aq,Ar,As⟩:=ce3 a0
 obtain ⟨Aa,Ab,Ac⟩:=ce3 a1
 obtain ⟨Ad,Ae,Af⟩:=ce3 a2
 go_upto_region 14 with (first | ((first | (go_at_call 11;with_reducible refine (chVB hb R C1).mono ?_) | (go_at_call 12;with_reducible refine (zL hb (C2.out _ (R.below hb))).mono ?_) | (go_at_call 36;with_reducible refine (chVB hb R C3).mono ?_) | (go_at_call 16;with_reducible refine (chVB hb R C4).mono ?_));clear hb;rintro e w1 ⟨rfl,hk,hb⟩;clear Aq Ar As Aa Ab Ac Ad Ae Af;replace a0:=zB hk a0;replace a1:=zB hk a1;replace a2:=zB hk a2;obtain ⟨Aq,Ar,As⟩:=ce3 a0;obtain ⟨Aa,Ab,Ac⟩:=ce3 a1;obtain ⟨Ad,Ae,Af⟩:=ce3 a2;clear hk) | (go_at_call 38;with_reducible refine (chVB hb R C5).mono ?_;clear hb;rintro e w1 ⟨rfl,hk,hb⟩;clear Aa Ab Ac Ad Ae Af;replace a1:=zB hk a1;replace a2:=zB hk a2;obtain ⟨Aa,Ab,Ac⟩:=ce3 a1;obtain ⟨Ad,Ae,Af⟩:=ce3 a2;clear hk))
 clear Aq Ar As a0
 refine wp_alloc1 (fun w1 Ag hk=>?_)
 clear Aa Ab Ac Ad Ae Af
 replace a1:=zB hk a1
 replace a2:=zB hk a2
 obtain ⟨Aa,Ab,Ac⟩:=ce3 a1
 obtain ⟨Ad,Ae,Af⟩:=ce3 a2
 replace hb:=hb.trans (hk.mono hb.size)
 clear hk
 obtain ⟨Ah,Ai,Aj⟩:=ce3 Ag
 go_wp2
 refine wp_alloc1 (fun w1 alp0 hk=>?_)
 clear Aa Ab Ac Ad Ae Af Ah Ai Aj
 replace a1:=zB hk a1
 replace a2:=zB hk a2
 replace Ag:=zB hk Ag
 obtain ⟨Aa,Ab,Ac⟩:=ce3 a1
 obtain ⟨Ad,Ae,Af⟩:=ce3 a2
 obtain ⟨Ah,Ai,Aj⟩:=ce3 Ag
 replace hb:=hb.trans (hk.mono hb.size)
 clear hk
 obtain ⟨Ak,Al,Am,An,Ao,Ap⟩:=ce6 alp0
 have HA1:=Lib.hid a1
 have HA2:=Lib.hid a2
 have HAg14_0:=Lib.hid Ag
 have HAlp0:=Lib.hid alp0
 have HB:=Lib.hid hb
 clear hb Aa Ab Ac Ad Ae Af Ah Ai Aj Ak Al Am An Ao Ap a1 a2 Ag alp0
 go_loopw [100,9] (fun i e wr=>((i = .int .i64 0∧e = .int .i64 0)∨(i = .int .i64 1∧e = .int .i64 2)∨(i = .int .i64 2∧e = .int .i64 2))∧Below w1.heap.size w1 wr) (fun i _ _=>2 - (intOf i).toNat)
 case atStart=>exact ⟨Or.inl ⟨rfl,rfl⟩,Below.refl _ _⟩
 case round =>
   obtain ⟨⟨rfl,rfl⟩ | ⟨rfl,rfl⟩ | ⟨rfl,rfl⟩,hw⟩:=hrel
   · have y0:=zC hw (zA HAlp0.out:w1.cell? ⟨_,0,none⟩=some (Value.string s3))
     have y1:=zC hw (zA HAlp0.out:w1.cell? ⟨_,1,none⟩=some (Value.string s4))
     have y2:=zC hw (zA HAlp0.out:w1.cell? ⟨_,2,none⟩=some (Value.string s5))
     go_wp2_with (first | (go_at_call 27;(refine calls_alloc1 (fun w9 a9 hk=>?_));replace hw:=hw.trans (hk.mono hw.size);clear hk;(with_reducible refine (zK hw (G_cD.out _ (R.below (HB.out.trans (hw.mono HB.out.size))))).mono ?_);clear hw;rintro e w8 ⟨rfl,hk,hw⟩;replace a9:=zB hk a9;clear hk;have x9:w8.cell? ⟨_,2,none⟩=some (Value.string s5):=zA a9;clear a9) | (go_at_call 21;(with_reducible refine (zL hw (G_cR1.out _ (R.below (HB.out.trans (hw.mono HB.out.size))))).mono ?_);clear hw;rintro e w7 ⟨rfl,hk,hw⟩;clear hk))
     go_roundw
     case rel=>exact ⟨Or.inr (Or.inl ⟨rfl,rfl⟩),hw⟩
     case measure=>simp [intOf]
   · have y0:=zC hw (zA HAlp0.out:w1.cell? ⟨_,3,none⟩=some (Value.string s6))
     have y1:=zC hw (zA HAlp0.out:w1.cell? ⟨_,4,none⟩=some (Value.string s7))
     have y2:=zC hw (zA HAlp0.out:w1.cell? ⟨_,5,none⟩=some (Value.string s8))
     go_wp2
     go_roundw
     case rel=>exact ⟨Or.inr (Or.inr ⟨rfl,rfl⟩),by first | exact hw | exact hw.alloc hw.size _⟩
     case measure=>simp [intOf]
   · obtain ⟨w1,ew⟩:∃ w1,w1=wr:=⟨_,rfl⟩
     subst ew
     have hb:=HB.out.trans (hw.mono HB.out.size)
     have a1:=zB hw HA1.out
     obtain ⟨Aa,Ab,Ac⟩:=ce3 a1
     have a2:=zB hw HA2.out
     obtain ⟨Ad,Ae,Af⟩:=ce3 a2
     have Ag:=zB hw HAg14_0.out
     obtain ⟨Ah,Ai,Aj⟩:=ce3 Ag
     have alp0:=zB hw HAlp0.out
     obtain ⟨Ak,Al,Am,An,Ao,Ap⟩:=ce6 alp0
     clear hw
     go_upto_region 23 with fail
     go_quiet (fail)
     replace hb:=hb.trans ((below_drewN w1 nq).mono hb.size)
     replace Aa:=(show (w1.drewN nq).cell? _=_ from Aa)
     replace Ab:=(show (w1.drewN nq).cell? _=_ from Ab)
     replace Ac:=(show (w1.drewN nq).cell? _=_ from Ac)
     replace a1:=(show (w1.drewN nq).heap[_]? = _ from a1)
     replace Ad:=(show (w1.drewN nq).cell? _=_ from Ad)
     replace Ae:=(show (w1.drewN nq).cell? _=_ from Ae)
     replace Af:=(show (w1.drewN nq).cell? _=_ from Af)
     replace a2:=(show (w1.drewN nq).heap[_]? = _ from a2)
     replace Ah:=(show (w1.drewN nq).cell? _=_ from Ah)
     replace Ai:=(show (w1.drewN nq).cell? _=_ from Ai)
     replace Aj:=(show (w1.drewN nq).cell? _=_ from Aj)
     replace Ag:=(show (w1.drewN nq).heap[_]? = _ from Ag)
     replace Ak:=(show (w1.drewN nq).cell? _=_ from Ak)
     replace Al:=(show (w1.drewN nq).cell? _=_ from Al)
     replace Am:=(show (w1.drewN nq).cell? _=_ from Am)
     replace An:=(show (w1.drewN nq).cell? _=_ from An)
     replace Ao:=(show (w1.drewN nq).cell? _=_ from Ao)
     replace Ap:=(show (w1.drewN nq).cell? _=_ from Ap)
     replace alp0:=(show (w1.drewN nq).heap[_]? = _ from alp0)
     obtain ⟨w1,hw2⟩:∃ w2,w1.drewN nq=w2:=⟨_,rfl⟩
     rw [hw2] at hb Aa Ab Ac a1 Ad Ae Af a2 Ah Ai Aj Ag Ak Al Am An Ao Ap alp0 ⊢
     clear hw2
     go_wp2
     first | go_ret | go_ret2 | go_ret3
     exact ⟨rfl,hb⟩
theorem falls_1C  (s0 s1 s2 s3 s4 s5 s6 s7 s8:ByteArray) (hs:s0.size≤24∧s1.size≤24∧s2.size≤24∧s3.size≤24∧s4.size≤24∧s5.size≤24∧s6.size≤24∧s7.size≤24∧s8.size≤24) (nv dw:Int) (cA:CV 36 #[.agg #[.string s0,.string s1,.string s2],.agg #[.string s3,.string s4]] (.tuple #[.string ⟨#[]⟩,.int .i64 nv])) (cN:CV 16 #[.agg #[.string s0,.string s1,.string s2]] (.int .i64 nv)) (cD:CV 27 #[.agg #[.string s3,.string s4]] (.int .i64 0)) (cR1:∀ w,EnvV w→Calls Tryz.prog 21 #[.slice (some ⟨w.heap.size,0,none⟩) 1 1] (w.alloc (Obj.cells #[Value.string s5] 22)) (Ret w (.bool true))) (cD2:CV 27 #[.agg #[.string s6,.string s7]] (.int .i64 dw)) (cT:CV 38 #[.agg #[.string s3,.string s4,.string s5],.agg #[.string s6,.string s7,.string s8]] (.tuple #[.agg #[.string ⟨#[]⟩,.string ⟨#[]⟩,.string ⟨#[]⟩],.int .i64 dw])) (nnv:nv≠0) (ndw:dw≠0) (w:World) (R:EnvV w) :
   Calls Tryz.prog 9 #[.agg #[.string s0,.string s1,.string s2],.agg #[.string s3,.string s4,.string s5],.agg #[.string s6,.string s7,.string s8]] w (Ret w (.bool true)):=by
 have G_cD:=Lib.hid cD
 have G_cR1:=Lib.hid cR1
 have G_cD2:=Lib.hid cD2
 have c1:=known15_any
 have c2:∀ w,EnvV w→Calls Tryz.prog 12 #[.slice (some ⟨w.heap.size,0,none⟩) 9 9] (w.alloc (Obj.cells #[Value.string s0,Value.string s1,Value.string s2,Value.string s3,Value.string s4,Value.string s5,Value.string s6,Value.string s7,Value.string s8] 22)) (Ret w (.bool true)):=fun w R=>short9 s0 s1 s2 s3 s4 s5 s6 s7 s8 true ⟨fun _=>hs,fun _=>rfl⟩ (Nat.le_trans hs.1 (by decide)) (Nat.le_trans hs.2.1 (by decide)) (Nat.le_trans hs.2.2.1 (by decide)) (Nat.le_trans hs.2.2.2.1 (by decide)) (Nat.le_trans hs.2.2.2.2.1 (by decide)) (Nat.le_trans hs.2.2.2.2.2.1 (by decide)) (Nat.le_trans hs.2.2.2.2.2.2.1 (by decide)) (Nat.le_trans hs.2.2.2.2.2.2.2.1 (by decide)) (Nat.le_trans hs.2.2.2.2.2.2.2.2 (by decide)) w R
 have c3:=cA
 have c4:=cN
 have c5:=cT
 have eqnv:(nv == 0)=false:=beq_eq_false_iff_ne.2 nnv
 have pqnv:¬ nv=0:=nnv
 have eqdw:(dw == 0)=false:=beq_eq_false_iff_ne.2 ndw
 have pqdw:¬ dw=0:=ndw
 have C1:=Lib.hid c1
 have C2:=Lib.hid c2
 have C3:=Lib.hid c3
 have C4:=Lib.hid c4
 have C5:=Lib.hid c5
 clear c1 c2 c3 c4 c5 cA cN cD cR1 cD2 cT hs nnv ndw
 have hb:=Below.refl w.heap.size w
 go_enter Tryz.func9,Tryz.ntmps9
 go_upto_region 1 with fail
 refine wp_alloc3 (fun w1 a0 a1 a2 hk=>?_)
 replace hb:=hb.trans (hk.mono hb.size)
 clear hk
 obtain ⟨Aq,Ar,As⟩:=ce3 a0
 obtain ⟨Aa,Ab,Ac⟩:=ce3 a1
 obtain ⟨Ad,Ae,Af⟩:=ce3 a2
 go_upto_region 14 with (first | ((first | (go_at_call 11;with_reducible refine (chVB hb R C1).mono ?_) | (go_at_call 12;with_reducible refine (zL hb (C2.out _ (R.below hb))).mono ?_) | (go_at_call 36;with_reducible refine (chVB hb R C3).mono ?_) | (go_at_call 16;with_reducible refine (chVB hb R C4).mono ?_));clear hb;rintro e w1 ⟨rfl,hk,hb⟩;clear Aq Ar As Aa Ab Ac Ad Ae Af;replace a0:=zB hk a0;replace a1:=zB hk a1;replace a2:=zB hk a2;obtain ⟨Aq,Ar,As⟩:=ce3 a0;obtain ⟨Aa,Ab,Ac⟩:=ce3 a1;obtain ⟨Ad,Ae,Af⟩:=ce3 a2;clear hk) | (go_at_call 38;with_reducible refine (chVB hb R C5).mono ?_;clear hb;rintro e w1 ⟨rfl,hk,hb⟩;clear Aa Ab Ac Ad Ae Af;replace a1:=zB hk a1;replace a2:=zB hk a2;obtain ⟨Aa,Ab,Ac⟩:=ce3 a1;obtain ⟨Ad,Ae,Af⟩:=ce3 a2;clear hk))
 clear Aq Ar As a0
 refine wp_alloc1 (fun w1 Ag hk=>?_)
 clear Aa Ab Ac Ad Ae Af
 replace a1:=zB hk a1
 replace a2:=zB hk a2
 obtain ⟨Aa,Ab,Ac⟩:=ce3 a1
 obtain ⟨Ad,Ae,Af⟩:=ce3 a2
 replace hb:=hb.trans (hk.mono hb.size)
 clear hk
 obtain ⟨Ah,Ai,Aj⟩:=ce3 Ag
 go_wp2
 refine wp_alloc1 (fun w1 alp0 hk=>?_)
 clear Aa Ab Ac Ad Ae Af Ah Ai Aj
 replace a1:=zB hk a1
 replace a2:=zB hk a2
 replace Ag:=zB hk Ag
 obtain ⟨Aa,Ab,Ac⟩:=ce3 a1
 obtain ⟨Ad,Ae,Af⟩:=ce3 a2
 obtain ⟨Ah,Ai,Aj⟩:=ce3 Ag
 replace hb:=hb.trans (hk.mono hb.size)
 clear hk
 obtain ⟨Ak,Al,Am,An,Ao,Ap⟩:=ce6 alp0
 have HA1:=Lib.hid a1
 have HA2:=Lib.hid a2
 have HAg14_0:=Lib.hid Ag
 have HAlp0:=Lib.hid alp0
 have HB:=Lib.hid hb
 clear hb Aa Ab Ac Ad Ae Af Ah Ai Aj Ak Al Am An Ao Ap a1 a2 Ag alp0
 go_loopw [100,9] (fun i e wr=>((i = .int .i64 0∧e = .int .i64 0)∨(i = .int .i64 1∧e = .int .i64 0)∨(i = .int .i64 2∧e = .int .i64 dw))∧Below w1.heap.size w1 wr) (fun i _ _=>2 - (intOf i).toNat)
 case atStart=>exact ⟨Or.inl ⟨rfl,rfl⟩,Below.refl _ _⟩
 case round =>
   obtain ⟨⟨rfl,rfl⟩ | ⟨rfl,rfl⟩ | ⟨rfl,rfl⟩,hw⟩:=hrel
   · have y0:=zC hw (zA HAlp0.out:w1.cell? ⟨_,0,none⟩=some (Value.string s3))
     have y1:=zC hw (zA HAlp0.out:w1.cell? ⟨_,1,none⟩=some (Value.string s4))
     have y2:=zC hw (zA HAlp0.out:w1.cell? ⟨_,2,none⟩=some (Value.string s5))
     go_wp2_with (first | (go_at_call 27;(refine calls_alloc1 (fun w9 a9 hk=>?_));replace hw:=hw.trans (hk.mono hw.size);clear hk;(with_reducible refine (zK hw (G_cD.out _ (R.below (HB.out.trans (hw.mono HB.out.size))))).mono ?_);clear hw;rintro e w8 ⟨rfl,hk,hw⟩;replace a9:=zB hk a9;clear hk;have x9:w8.cell? ⟨_,2,none⟩=some (Value.string s5):=zA a9;clear a9) | (go_at_call 21;(with_reducible refine (zL hw (G_cR1.out _ (R.below (HB.out.trans (hw.mono HB.out.size))))).mono ?_);clear hw;rintro e w7 ⟨rfl,hk,hw⟩;clear hk))
     go_roundw
     case rel=>exact ⟨Or.inr (Or.inl ⟨rfl,rfl⟩),hw⟩
     case measure=>simp [intOf]
   · have y0:=zC hw (zA HAlp0.out:w1.cell? ⟨_,3,none⟩=some (Value.string s6))
     have y1:=zC hw (zA HAlp0.out:w1.cell? ⟨_,4,none⟩=some (Value.string s7))
     have y2:=zC hw (zA HAlp0.out:w1.cell? ⟨_,5,none⟩=some (Value.string s8))
     go_wp2_with (go_at_call 27;(refine calls_alloc1 (fun w9 a9 hk=>?_));replace hw:=hw.trans (hk.mono hw.size);clear hk;(with_reducible refine (zK hw (G_cD2.out _ (R.below (HB.out.trans (hw.mono HB.out.size))))).mono ?_);clear hw;rintro e w8 ⟨rfl,hk,hw⟩;replace a9:=zB hk a9;clear hk;have x9:w8.cell? ⟨_,2,none⟩=some (Value.string s8):=zA a9;clear a9)
     go_roundw
     case rel=>exact ⟨Or.inr (Or.inr ⟨rfl,rfl⟩),hw⟩
     case measure=>simp [intOf]
   · obtain ⟨w1,ew⟩:∃ w1,w1=wr:=⟨_,rfl⟩
     subst ew
     have hb:=HB.out.trans (hw.mono HB.out.size)
     have a1:=zB hw HA1.out
     obtain ⟨Aa,Ab,Ac⟩:=ce3 a1
     have a2:=zB hw HA2.out
     obtain ⟨Ad,Ae,Af⟩:=ce3 a2
     have Ag:=zB hw HAg14_0.out
     obtain ⟨Ah,Ai,Aj⟩:=ce3 Ag
     have alp0:=zB hw HAlp0.out
     obtain ⟨Ak,Al,Am,An,Ao,Ap⟩:=ce6 alp0
     clear hw
     go_upto_region 23 with fail
     go_quiet (fail)
     replace hb:=hb.trans ((below_drewN w1 nq).mono hb.size)
     replace Aa:=(show (w1.drewN nq).cell? _=_ from Aa)
     replace Ab:=(show (w1.drewN nq).cell? _=_ from Ab)
     replace Ac:=(show (w1.drewN nq).cell? _=_ from Ac)
     replace a1:=(show (w1.drewN nq).heap[_]? = _ from a1)
     replace Ad:=(show (w1.drewN nq).cell? _=_ from Ad)
     replace Ae:=(show (w1.drewN nq).cell? _=_ from Ae)
     replace Af:=(show (w1.drewN nq).cell? _=_ from Af)
     replace a2:=(show (w1.drewN nq).heap[_]? = _ from a2)
     replace Ah:=(show (w1.drewN nq).cell? _=_ from Ah)
     replace Ai:=(show (w1.drewN nq).cell? _=_ from Ai)
     replace Aj:=(show (w1.drewN nq).cell? _=_ from Aj)
     replace Ag:=(show (w1.drewN nq).heap[_]? = _ from Ag)
     replace Ak:=(show (w1.drewN nq).cell? _=_ from Ak)
     replace Al:=(show (w1.drewN nq).cell? _=_ from Al)
     replace Am:=(show (w1.drewN nq).cell? _=_ from Am)
     replace An:=(show (w1.drewN nq).cell? _=_ from An)
     replace Ao:=(show (w1.drewN nq).cell? _=_ from Ao)
     replace Ap:=(show (w1.drewN nq).cell? _=_ from Ap)
     replace alp0:=(show (w1.drewN nq).heap[_]? = _ from alp0)
     obtain ⟨w1,hw2⟩:∃ w2,w1.drewN nq=w2:=⟨_,rfl⟩
     rw [hw2] at hb Aa Ab Ac a1 Ad Ae Af a2 Ah Ai Aj Ag Ak Al Am An Ao Ap alp0 ⊢
     clear hw2
     go_wp2
     first | go_ret | go_ret2 | go_ret3
     exact ⟨rfl,hb⟩
theorem falls_1D  (s0 s1 s2 s3 s4 s5 s6 s7 s8:ByteArray) (hs:s0.size≤24∧s1.size≤24∧s2.size≤24∧s3.size≤24∧s4.size≤24∧s5.size≤24∧s6.size≤24∧s7.size≤24∧s8.size≤24) (nv:Int) (cA:CV 36 #[.agg #[.string s0,.string s1,.string s2],.agg #[.string s3,.string s4]] (.tuple #[.string ⟨#[]⟩,.int .i64 nv])) (cN:CV 16 #[.agg #[.string s0,.string s1,.string s2]] (.int .i64 nv)) (cD:CV 27 #[.agg #[.string s3,.string s4]] (.int .i64 0)) (cR1:∀ w,EnvV w→Calls Tryz.prog 21 #[.slice (some ⟨w.heap.size,0,none⟩) 1 1] (w.alloc (Obj.cells #[Value.string s5] 22)) (Ret w (.bool true))) (cD2:CV 27 #[.agg #[.string s6,.string s7]] (.int .i64 0)) (cR2:∀ w,EnvV w→Calls Tryz.prog 21 #[.slice (some ⟨w.heap.size,0,none⟩) 1 1] (w.alloc (Obj.cells #[Value.string s8] 22)) (Ret w (.bool false))) (cT:CV 38 #[.agg #[.string s3,.string s4,.string s5],.agg #[.string s6,.string s7,.string s8]] (.tuple #[.agg #[.string ⟨#[]⟩,.string ⟨#[]⟩,.string ⟨#[]⟩],.int .i64 2])) (nnv:nv≠0) (w:World) (R:EnvV w) :
   Calls Tryz.prog 9 #[.agg #[.string s0,.string s1,.string s2],.agg #[.string s3,.string s4,.string s5],.agg #[.string s6,.string s7,.string s8]] w (Ret w (.bool true)):=by
 have G_cD:=Lib.hid cD
 have G_cR1:=Lib.hid cR1
 have G_cD2:=Lib.hid cD2
 have G_cR2:=Lib.hid cR2
 have c1:=known15_any
 have c2:∀ w,EnvV w→Calls Tryz.prog 12 #[.slice (some ⟨w.heap.size,0,none⟩) 9 9] (w.alloc (Obj.cells #[Value.string s0,Value.string s1,Value.string s2,Value.string s3,Value.string s4,Value.string s5,Value.string s6,Value.string s7,Value.string s8] 22)) (Ret w (.bool true)):=fun w R=>short9 s0 s1 s2 s3 s4 s5 s6 s7 s8 true ⟨fun _=>hs,fun _=>rfl⟩ (Nat.le_trans hs.1 (by decide)) (Nat.le_trans hs.2.1 (by decide)) (Nat.le_trans hs.2.2.1 (by decide)) (Nat.le_trans hs.2.2.2.1 (by decide)) (Nat.le_trans hs.2.2.2.2.1 (by decide)) (Nat.le_trans hs.2.2.2.2.2.1 (by decide)) (Nat.le_trans hs.2.2.2.2.2.2.1 (by decide)) (Nat.le_trans hs.2.2.2.2.2.2.2.1 (by decide)) (Nat.le_trans hs.2.2.2.2.2.2.2.2 (by decide)) w R
 have c3:=cA
 have c4:=cN
 have c5:=cT
 have eqnv:(nv == 0)=false:=beq_eq_false_iff_ne.2 nnv
 have pqnv:¬ nv=0:=nnv
 have C1:=Lib.hid c1
 have C2:=Lib.hid c2
 have C3:=Lib.hid c3
 have C4:=Lib.hid c4
 have C5:=Lib.hid c5
 clear c1 c2 c3 c4 c5 cA cN cD cR1 cD2 cR2 cT hs nnv
 have hb:=Below.refl w.heap.size w
 go_enter Tryz.func9,Tryz.ntmps9
 go_upto_region 1 with fail
 refine wp_alloc3 (fun w1 a0 a1 a2 hk=>?_)
 replace hb:=hb.trans (hk.mono hb.size)
 clear hk
 obtain ⟨Aq,Ar,As⟩:=ce3 a0
 obtain ⟨Aa,Ab,Ac⟩:=ce3 a1
 obtain ⟨Ad,Ae,Af⟩:=ce3 a2
 go_upto_region 14 with (first | ((first | (go_at_call 11;with_reducible refine (chVB hb R C1).mono ?_) | (go_at_call 12;with_reducible refine (zL hb (C2.out _ (R.below hb))).mono ?_) | (go_at_call 36;with_reducible refine (chVB hb R C3).mono ?_) | (go_at_call 16;with_reducible refine (chVB hb R C4).mono ?_));clear hb;rintro e w1 ⟨rfl,hk,hb⟩;clear Aq Ar As Aa Ab Ac Ad Ae Af;replace a0:=zB hk a0;replace a1:=zB hk a1;replace a2:=zB hk a2;obtain ⟨Aq,Ar,As⟩:=ce3 a0;obtain ⟨Aa,Ab,Ac⟩:=ce3 a1;obtain ⟨Ad,Ae,Af⟩:=ce3 a2;clear hk) | (go_at_call 38;with_reducible refine (chVB hb R C5).mono ?_;clear hb;rintro e w1 ⟨rfl,hk,hb⟩;clear Aa Ab Ac Ad Ae Af;replace a1:=zB hk a1;replace a2:=zB hk a2;obtain ⟨Aa,Ab,Ac⟩:=ce3 a1;obtain ⟨Ad,Ae,Af⟩:=ce3 a2;clear hk))
 clear Aq Ar As a0
 refine wp_alloc1 (fun w1 Ag hk=>?_)
 clear Aa Ab Ac Ad Ae Af
 replace a1:=zB hk a1
 replace a2:=zB hk a2
 obtain ⟨Aa,Ab,Ac⟩:=ce3 a1
 obtain ⟨Ad,Ae,Af⟩:=ce3 a2
 replace hb:=hb.trans (hk.mono hb.size)
 clear hk
 obtain ⟨Ah,Ai,Aj⟩:=ce3 Ag
 go_wp2
 refine wp_alloc1 (fun w1 alp0 hk=>?_)
 clear Aa Ab Ac Ad Ae Af Ah Ai Aj
 replace a1:=zB hk a1
 replace a2:=zB hk a2
 replace Ag:=zB hk Ag
 obtain ⟨Aa,Ab,Ac⟩:=ce3 a1
 obtain ⟨Ad,Ae,Af⟩:=ce3 a2
 obtain ⟨Ah,Ai,Aj⟩:=ce3 Ag
 replace hb:=hb.trans (hk.mono hb.size)
 clear hk
 obtain ⟨Ak,Al,Am,An,Ao,Ap⟩:=ce6 alp0
 have HA1:=Lib.hid a1
 have HA2:=Lib.hid a2
 have HAg14_0:=Lib.hid Ag
 have HAlp0:=Lib.hid alp0
 have HB:=Lib.hid hb
 clear hb Aa Ab Ac Ad Ae Af Ah Ai Aj Ak Al Am An Ao Ap a1 a2 Ag alp0
 go_loopw [100,9] (fun i e wr=>((i = .int .i64 0∧e = .int .i64 0)∨(i = .int .i64 1∧e = .int .i64 0)∨(i = .int .i64 2∧e = .int .i64 2))∧Below w1.heap.size w1 wr) (fun i _ _=>2 - (intOf i).toNat)
 case atStart=>exact ⟨Or.inl ⟨rfl,rfl⟩,Below.refl _ _⟩
 case round =>
   obtain ⟨⟨rfl,rfl⟩ | ⟨rfl,rfl⟩ | ⟨rfl,rfl⟩,hw⟩:=hrel
   · have y0:=zC hw (zA HAlp0.out:w1.cell? ⟨_,0,none⟩=some (Value.string s3))
     have y1:=zC hw (zA HAlp0.out:w1.cell? ⟨_,1,none⟩=some (Value.string s4))
     have y2:=zC hw (zA HAlp0.out:w1.cell? ⟨_,2,none⟩=some (Value.string s5))
     go_wp2_with (first | (go_at_call 27;(refine calls_alloc1 (fun w9 a9 hk=>?_));replace hw:=hw.trans (hk.mono hw.size);clear hk;(with_reducible refine (zK hw (G_cD.out _ (R.below (HB.out.trans (hw.mono HB.out.size))))).mono ?_);clear hw;rintro e w8 ⟨rfl,hk,hw⟩;replace a9:=zB hk a9;clear hk;have x9:w8.cell? ⟨_,2,none⟩=some (Value.string s5):=zA a9;clear a9) | (go_at_call 21;(with_reducible refine (zL hw (G_cR1.out _ (R.below (HB.out.trans (hw.mono HB.out.size))))).mono ?_);clear hw;rintro e w7 ⟨rfl,hk,hw⟩;clear hk))
     go_roundw
     case rel=>exact ⟨Or.inr (Or.inl ⟨rfl,rfl⟩),hw⟩
     case measure=>simp [intOf]
   · have y0:=zC hw (zA HAlp0.out:w1.cell? ⟨_,3,none⟩=some (Value.string s6))
     have y1:=zC hw (zA HAlp0.out:w1.cell? ⟨_,4,none⟩=some (Value.string s7))
     have y2:=zC hw (zA HAlp0.out:w1.cell? ⟨_,5,none⟩=some (Value.string s8))
     go_wp2_with (first | (go_at_call 27;(refine calls_alloc1 (fun w9 a9 hk=>?_));replace hw:=hw.trans (hk.mono hw.size);clear hk;(with_reducible refine (zK hw (G_cD2.out _ (R.below (HB.out.trans (hw.mono HB.out.size))))).mono ?_);clear hw;rintro e w8 ⟨rfl,hk,hw⟩;replace a9:=zB hk a9;clear hk;have x9:w8.cell? ⟨_,2,none⟩=some (Value.string s8):=zA a9;clear a9) | (go_at_call 21;(with_reducible refine (zL hw (G_cR2.out _ (R.below (HB.out.trans (hw.mono HB.out.size))))).mono ?_);clear hw;rintro e w7 ⟨rfl,hk,hw⟩;clear hk))
     go_roundw
     case rel=>exact ⟨Or.inr (Or.inr ⟨rfl,rfl⟩),hw⟩
     case measure=>simp [intOf]
   · obtain ⟨w1,ew⟩:∃ w1,w1=wr:=⟨_,rfl⟩
     subst ew
     have hb:=HB.out.trans (hw.mono HB.out.size)
     have a1:=zB hw HA1.out
     obtain ⟨Aa,Ab,Ac⟩:=ce3 a1
     have a2:=zB hw HA2.out
     obtain ⟨Ad,Ae,Af⟩:=ce3 a2
     have Ag:=zB hw HAg14_0.out
     obtain ⟨Ah,Ai,Aj⟩:=ce3 Ag
     have alp0:=zB hw HAlp0.out
     obtain ⟨Ak,Al,Am,An,Ao,Ap⟩:=ce6 alp0
     clear hw
     go_upto_region 23 with fail
     go_quiet (fail)
     replace hb:=hb.trans ((below_drewN w1 nq).mono hb.size)
     replace Aa:=(show (w1.drewN nq).cell? _=_ from Aa)
     replace Ab:=(show (w1.drewN nq).cell? _=_ from Ab)
     replace Ac:=(show (w1.drewN nq).cell? _=_ from Ac)
     replace a1:=(show (w1.drewN nq).heap[_]? = _ from a1)
     replace Ad:=(show (w1.drewN nq).cell? _=_ from Ad)
     replace Ae:=(show (w1.drewN nq).cell? _=_ from Ae)
     replace Af:=(show (w1.drewN nq).cell? _=_ from Af)
     replace a2:=(show (w1.drewN nq).heap[_]? = _ from a2)
     replace Ah:=(show (w1.drewN nq).cell? _=_ from Ah)
     replace Ai:=(show (w1.drewN nq).cell? _=_ from Ai)
     replace Aj:=(show (w1.drewN nq).cell? _=_ from Aj)
     replace Ag:=(show (w1.drewN nq).heap[_]? = _ from Ag)
     replace Ak:=(show (w1.drewN nq).cell? _=_ from Ak)
     replace Al:=(show (w1.drewN nq).cell? _=_ from Al)
     replace Am:=(show (w1.drewN nq).cell? _=_ from Am)
     replace An:=(show (w1.drewN nq).cell? _=_ from An)
     replace Ao:=(show (w1.drewN nq).cell? _=_ from Ao)
     replace Ap:=(show (w1.drewN nq).cell? _=_ from Ap)
     replace alp0:=(show (w1.drewN nq).heap[_]? = _ from alp0)
     obtain ⟨w1,hw2⟩:∃ w2,w1.drewN nq=w2:=⟨_,rfl⟩
     rw [hw2] at hb Aa Ab Ac a1 Ad Ae Af a2 Ah Ai Aj Ag Ak Al Am An Ao Ap alp0 ⊢
     clear hw2
     go_wp2
     first | go_ret | go_ret2 | go_ret3
     exact ⟨rfl,hb⟩
theorem falls_1E  (s0 s1 s2 s3 s4 s5 s6 s7 s8:ByteArray) (hs:s0.size≤24∧s1.size≤24∧s2.size≤24∧s3.size≤24∧s4.size≤24∧s5.size≤24∧s6.size≤24∧s7.size≤24∧s8.size≤24) (u1 u2:ByteArray) (nv:Int) (cA:CV 36 #[.agg #[.string s0,.string s1,.string s2],.agg #[.string s3,.string s4]] (.tuple #[.string ⟨#[]⟩,.int .i64 nv])) (cN:CV 16 #[.agg #[.string s0,.string s1,.string s2]] (.int .i64 nv)) (cD:CV 27 #[.agg #[.string s3,.string s4]] (.int .i64 0)) (cR1:∀ w,EnvV w→Calls Tryz.prog 21 #[.slice (some ⟨w.heap.size,0,none⟩) 1 1] (w.alloc (Obj.cells #[Value.string s5] 22)) (Ret w (.bool true))) (cD2:CV 27 #[.agg #[.string s6,.string s7]] (.int .i64 0)) (cR2:∀ w,EnvV w→Calls Tryz.prog 21 #[.slice (some ⟨w.heap.size,0,none⟩) 1 1] (w.alloc (Obj.cells #[Value.string s8] 22)) (Ret w (.bool true))) (cT:CV 38 #[.agg #[.string s3,.string s4,.string s5],.agg #[.string s6,.string s7,.string s8]] (.tuple #[.agg #[.string ⟨#[]⟩,.string ⟨#[]⟩,.string ⟨#[]⟩],.int .i64 18])) (cM1:CV 23 #[.string s3,.string s7] (.string u1)) (cM2:CV 23 #[.string s4,.string s6] (.string u2)) (cC:CV 31 #[.string u1,.string u2] (.int .i64 0)) (nnv:nv≠0) (w:World) (R:EnvV w) :
   Calls Tryz.prog 9 #[.agg #[.string s0,.string s1,.string s2],.agg #[.string s3,.string s4,.string s5],.agg #[.string s6,.string s7,.string s8]] w (Ret w (.bool true)):=by
 have G_cD:=Lib.hid cD
 have G_cR1:=Lib.hid cR1
 have G_cD2:=Lib.hid cD2
 have G_cR2:=Lib.hid cR2
 have c1:=known15_any
 have c2:∀ w,EnvV w→Calls Tryz.prog 12 #[.slice (some ⟨w.heap.size,0,none⟩) 9 9] (w.alloc (Obj.cells #[Value.string s0,Value.string s1,Value.string s2,Value.string s3,Value.string s4,Value.string s5,Value.string s6,Value.string s7,Value.string s8] 22)) (Ret w (.bool true)):=fun w R=>short9 s0 s1 s2 s3 s4 s5 s6 s7 s8 true ⟨fun _=>hs,fun _=>rfl⟩ (Nat.le_trans hs.1 (by decide)) (Nat.le_trans hs.2.1 (by decide)) (Nat.le_trans hs.2.2.1 (by decide)) (Nat.le_trans hs.2.2.2.1 (by decide)) (Nat.le_trans hs.2.2.2.2.1 (by decide)) (Nat.le_trans hs.2.2.2.2.2.1 (by decide)) (Nat.le_trans hs.2.2.2.2.2.2.1 (by decide)) (Nat.le_trans hs.2.2.2.2.2.2.2.1 (by decide)) (Nat.le_trans hs.2.2.2.2.2.2.2.2 (by decide)) w R
 have c3:=cA
 have c4:=cN
 have c5:=cT
 have c6:=cM1
 have c7:=cM2
 have c8:=cC
 have eqnv:(nv == 0)=false:=beq_eq_false_iff_ne.2 nnv
 have pqnv:¬ nv=0:=nnv
 have C1:=Lib.hid c1
 have C2:=Lib.hid c2
 have C3:=Lib.hid c3
 have C4:=Lib.hid c4
 have C5:=Lib.hid c5
 have C6:=Lib.hid c6
 have C7:=Lib.hid c7
 have C8:=Lib.hid c8
 clear c1 c2 c3 c4 c5 c6 c7 c8 cA cN cD cR1 cD2 cR2 cT cM1 cM2 cC hs nnv
 have hb:=Below.refl w.heap.size w
 go_enter Tryz.func9,Tryz.ntmps9
 go_upto_region 1 with fail
 refine wp_alloc3 (fun w1 a0 a1 a2 hk=>?_)
 replace hb:=hb.trans (hk.mono hb.size)
 clear hk
 obtain ⟨Aq,Ar,As⟩:=ce3 a0
 obtain ⟨Aa,Ab,Ac⟩:=ce3 a1
 obtain ⟨Ad,Ae,Af⟩:=ce3 a2
 go_upto_region 14 with (first | ((first | (go_at_call 11;with_reducible refine (chVB hb R C1).mono ?_) | (go_at_call 12;with_reducible refine (zL hb (C2.out _ (R.below hb))).mono ?_) | (go_at_call 36;with_reducible refine (chVB hb R C3).mono ?_) | (go_at_call 16;with_reducible refine (chVB hb R C4).mono ?_));clear hb;rintro e w1 ⟨rfl,hk,hb⟩;clear Aq Ar As Aa Ab Ac Ad Ae Af;replace a0:=zB hk a0;replace a1:=zB hk a1;replace a2:=zB hk a2;obtain ⟨Aq,Ar,As⟩:=ce3 a0;obtain ⟨Aa,Ab,Ac⟩:=ce3 a1;obtain ⟨Ad,Ae,Af⟩:=ce3 a2;clear hk) | (go_at_call 38;with_reducible refine (chVB hb R C5).mono ?_;clear hb;rintro e w1 ⟨rfl,hk,hb⟩;clear Aa Ab Ac Ad Ae Af;replace a1:=zB hk a1;replace a2:=zB hk a2;obtain ⟨Aa,Ab,Ac⟩:=ce3 a1;obtain ⟨Ad,Ae,Af⟩:=ce3 a2;clear hk))
 clear Aq Ar As a0
 refine wp_alloc1 (fun w1 Ag hk=>?_)
 clear Aa Ab Ac Ad Ae Af
 replace a1:=zB hk a1
 replace a2:=zB hk a2
 obtain ⟨Aa,Ab,Ac⟩:=ce3 a1
 obtain ⟨Ad,Ae,Af⟩:=ce3 a2
 replace hb:=hb.trans (hk.mono hb.size)
 clear hk
 obtain ⟨Ah,Ai,Aj⟩:=ce3 Ag
 go_wp2
 refine wp_alloc1 (fun w1 alp0 hk=>?_)
 clear Aa Ab Ac Ad Ae Af Ah Ai Aj
 replace a1:=zB hk a1
 replace a2:=zB hk a2
 replace Ag:=zB hk Ag
 obtain ⟨Aa,Ab,Ac⟩:=ce3 a1
 obtain ⟨Ad,Ae,Af⟩:=ce3 a2
 obtain ⟨Ah,Ai,Aj⟩:=ce3 Ag
 replace hb:=hb.trans (hk.mono hb.size)
 clear hk
 obtain ⟨Ak,Al,Am,An,Ao,Ap⟩:=ce6 alp0
 have HA1:=Lib.hid a1
 have HA2:=Lib.hid a2
 have HAg14_0:=Lib.hid Ag
 have HAlp0:=Lib.hid alp0
 have HB:=Lib.hid hb
 clear hb Aa Ab Ac Ad Ae Af Ah Ai Aj Ak Al Am An Ao Ap a1 a2 Ag alp0
 go_loopw [100,9] (fun i e wr=>((i = .int .i64 0∧e = .int .i64 0)∨(i = .int .i64 1∧e = .int .i64 0)∨(i = .int .i64 2∧e = .int .i64 0))∧Below w1.heap.size w1 wr) (fun i _ _=>2 - (intOf i).toNat)
 case atStart=>exact ⟨Or.inl ⟨rfl,rfl⟩,Below.refl _ _⟩
 case round =>
   obtain ⟨⟨rfl,rfl⟩ | ⟨rfl,rfl⟩ | ⟨rfl,rfl⟩,hw⟩:=hrel
   · have y0:=zC hw (zA HAlp0.out:w1.cell? ⟨_,0,none⟩=some (Value.string s3))
     have y1:=zC hw (zA HAlp0.out:w1.cell? ⟨_,1,none⟩=some (Value.string s4))
     have y2:=zC hw (zA HAlp0.out:w1.cell? ⟨_,2,none⟩=some (Value.string s5))
     go_wp2_with (first | (go_at_call 27;(refine calls_alloc1 (fun w9 a9 hk=>?_));replace hw:=hw.trans (hk.mono hw.size);clear hk;(with_reducible refine (zK hw (G_cD.out _ (R.below (HB.out.trans (hw.mono HB.out.size))))).mono ?_);clear hw;rintro e w8 ⟨rfl,hk,hw⟩;replace a9:=zB hk a9;clear hk;have x9:w8.cell? ⟨_,2,none⟩=some (Value.string s5):=zA a9;clear a9) | (go_at_call 21;(with_reducible refine (zL hw (G_cR1.out _ (R.below (HB.out.trans (hw.mono HB.out.size))))).mono ?_);clear hw;rintro e w7 ⟨rfl,hk,hw⟩;clear hk))
     go_roundw
     case rel=>exact ⟨Or.inr (Or.inl ⟨rfl,rfl⟩),hw⟩
     case measure=>simp [intOf]
   · have y0:=zC hw (zA HAlp0.out:w1.cell? ⟨_,3,none⟩=some (Value.string s6))
     have y1:=zC hw (zA HAlp0.out:w1.cell? ⟨_,4,none⟩=some (Value.string s7))
     have y2:=zC hw (zA HAlp0.out:w1.cell? ⟨_,5,none⟩=some (Value.string s8))
     go_wp2_with (first | (go_at_call 27;(refine calls_alloc1 (fun w9 a9 hk=>?_));replace hw:=hw.trans (hk.mono hw.size);clear hk;(with_reducible refine (zK hw (G_cD2.out _ (R.below (HB.out.trans (hw.mono HB.out.size))))).mono ?_);clear hw;rintro e w8 ⟨rfl,hk,hw⟩;replace a9:=zB hk a9;clear hk;have x9:w8.cell? ⟨_,2,none⟩=some (Value.string s8):=zA a9;clear a9) | (go_at_call 21;(with_reducible refine (zL hw (G_cR2.out _ (R.below (HB.out.trans (hw.mono HB.out.size))))).mono ?_);clear hw;rintro e w7 ⟨rfl,hk,hw⟩;clear hk))
     go_roundw
     case rel=>exact ⟨Or.inr (Or.inr ⟨rfl,rfl⟩),hw⟩
     case measure=>simp [intOf]
   · obtain ⟨w1,ew⟩:∃ w1,w1=wr:=⟨_,rfl⟩
     subst ew
     have hb:=HB.out.trans (hw.mono HB.out.size)
     have a1:=zB hw HA1.out
     obtain ⟨Aa,Ab,Ac⟩:=ce3 a1
     have a2:=zB hw HA2.out
     obtain ⟨Ad,Ae,Af⟩:=ce3 a2
     have Ag:=zB hw HAg14_0.out
     obtain ⟨Ah,Ai,Aj⟩:=ce3 Ag
     have alp0:=zB hw HAlp0.out
     obtain ⟨Ak,Al,Am,An,Ao,Ap⟩:=ce6 alp0
     clear hw
     go_upto_region 23 with fail
     obtain ⟨Aw,Ax,Ay⟩:=cy3 a1
     obtain ⟨Az,A0,A1⟩:=cy3 a2
     obtain ⟨A2,A3,A4⟩:=cy3 Ag
     obtain ⟨A5,A6,A7,A8,A9,Ba⟩:=cy6 alp0
     have At:=rrV C6 R hb
     have Au:=rrV C7 R hb
     have Av:=rrV C8 R hb
     refine wp_region_quiet_below (by first | assumption | kernel_rfl) (by kernel_rfl) ?_
     repeat (quiet_step (first | (with_reducible exact At.out _ _) | (with_reducible exact Au.out _ _) | (with_reducible exact Av.out _ _)))
     refine wpQuiet_nil ?_
     intro w1 hw'
     obtain ⟨hk,hb⟩:=zQ hb hw'
     clear Aa Ab Ac Ad Ae Af Ah Ai Aj Ak Al Am An Ao Ap
     replace a1:=zB hk a1
     replace a2:=zB hk a2
     replace Ag:=zB hk Ag
     replace alp0:=zB hk alp0
     obtain ⟨Aa,Ab,Ac⟩:=ce3 a1
     obtain ⟨Ad,Ae,Af⟩:=ce3 a2
     obtain ⟨Ah,Ai,Aj⟩:=ce3 Ag
     obtain ⟨Ak,Al,Am,An,Ao,Ap⟩:=ce6 alp0
     clear At Au Av Aw Ax Ay Az A0 A1 A2 A3 A4 A5 A6 A7 A8 A9 Ba
     clear hk hw'
     go_wp2
     first | go_ret | go_ret2 | go_ret3
     exact ⟨rfl,hb⟩
theorem falls_1F  (s0 s1 s2 s3 s4 s5 s6 s7 s8:ByteArray) (hs:s0.size≤24∧s1.size≤24∧s2.size≤24∧s3.size≤24∧s4.size≤24∧s5.size≤24∧s6.size≤24∧s7.size≤24∧s8.size≤24) (m0 m1 u1 u2:ByteArray) (nv c:Int) (cA:CV 36 #[.agg #[.string s0,.string s1,.string s2],.agg #[.string s3,.string s4]] (.tuple #[.string ⟨#[]⟩,.int .i64 nv])) (cN:CV 16 #[.agg #[.string s0,.string s1,.string s2]] (.int .i64 nv)) (cD:CV 27 #[.agg #[.string s3,.string s4]] (.int .i64 0)) (cR1:∀ w,EnvV w→Calls Tryz.prog 21 #[.slice (some ⟨w.heap.size,0,none⟩) 1 1] (w.alloc (Obj.cells #[Value.string s5] 22)) (Ret w (.bool true))) (cD2:CV 27 #[.agg #[.string s6,.string s7]] (.int .i64 0)) (cR2:∀ w,EnvV w→Calls Tryz.prog 21 #[.slice (some ⟨w.heap.size,0,none⟩) 1 1] (w.alloc (Obj.cells #[Value.string s8] 22)) (Ret w (.bool true))) (cT:CV 38 #[.agg #[.string s3,.string s4,.string s5],.agg #[.string s6,.string s7,.string s8]] (.tuple #[.agg #[.string m0,.string m1,.string ⟨#[49]⟩],.int .i64 0])) (cM1:CV 23 #[.string s3,.string s7] (.string u1)) (cM2:CV 23 #[.string s4,.string s6] (.string u2)) (cC:CV 31 #[.string u1,.string u2] (.int .i64 c)) (cR3:∀ w,EnvV w→Calls Tryz.prog 21 #[.slice (some ⟨w.heap.size,0,none⟩) 2 2] (w.alloc (Obj.cells #[Value.string m0,Value.string m1] 22)) (Ret w (.bool true))) (cF1:CV 37 #[.agg #[.string m0,.string m1,.string ⟨#[49]⟩],.agg #[.string s3,.string s4]] (.string s5)) (cF2:CV 37 #[.agg #[.string m0,.string m1,.string ⟨#[49]⟩],.agg #[.string s6,.string s7]] (.string s8)) (nnv:nv≠0) (nc:c≠0) (w:World) (R:EnvV w) :
   Calls Tryz.prog 9 #[.agg #[.string s0,.string s1,.string s2],.agg #[.string s3,.string s4,.string s5],.agg #[.string s6,.string s7,.string s8]] w (Ret w (.bool true)):=by
 have G_cD:=Lib.hid cD
 have G_cR1:=Lib.hid cR1
 have G_cD2:=Lib.hid cD2
 have G_cR2:=Lib.hid cR2
 have c1:=known15_any
 have c2:∀ w,EnvV w→Calls Tryz.prog 12 #[.slice (some ⟨w.heap.size,0,none⟩) 9 9] (w.alloc (Obj.cells #[Value.string s0,Value.string s1,Value.string s2,Value.string s3,Value.string s4,Value.string s5,Value.string s6,Value.string s7,Value.string s8] 22)) (Ret w (.bool true)):=fun w R=>short9 s0 s1 s2 s3 s4 s5 s6 s7 s8 true ⟨fun _=>hs,fun _=>rfl⟩ (Nat.le_trans hs.1 (by decide)) (Nat.le_trans hs.2.1 (by decide)) (Nat.le_trans hs.2.2.1 (by decide)) (Nat.le_trans hs.2.2.2.1 (by decide)) (Nat.le_trans hs.2.2.2.2.1 (by decide)) (Nat.le_trans hs.2.2.2.2.2.1 (by decide)) (Nat.le_trans hs.2.2.2.2.2.2.1 (by decide)) (Nat.le_trans hs.2.2.2.2.2.2.2.1 (by decide)) (Nat.le_trans hs.2.2.2.2.2.2.2.2 (by decide)) w R
 have c3:=cA
 have c4:=cN
 have c5:=cT
 have c6:=cM1
 have c7:=cM2
 have c8:=cC
 have c9:=cR3
 have c10:=cF1
 have c11:=cF2
 have eqnv:(nv == 0)=false:=beq_eq_false_iff_ne.2 nnv
 have pqnv:¬ nv=0:=nnv
 have eqc:(c == 0)=false:=beq_eq_false_iff_ne.2 nc
 have pqc:¬ c=0:=nc
 have C1:=Lib.hid c1
 have C2:=Lib.hid c2
 have C3:=Lib.hid c3
 have C4:=Lib.hid c4
 have C5:=Lib.hid c5
 have C6:=Lib.hid c6
 have C7:=Lib.hid c7
 have C8:=Lib.hid c8
 have C9:=Lib.hid c9
 have C10:=Lib.hid c10
 have C11:=Lib.hid c11
 clear c1 c2 c3 c4 c5 c6 c7 c8 c9 c10 c11 cA cN cD cR1 cD2 cR2 cT cM1 cM2 cC cR3 cF1 cF2 hs nnv nc
 have hb:=Below.refl w.heap.size w
 go_enter Tryz.func9,Tryz.ntmps9
 go_upto_region 1 with fail
 refine wp_alloc3 (fun w1 a0 a1 a2 hk=>?_)
 replace hb:=hb.trans (hk.mono hb.size)
 clear hk
 obtain ⟨A5,A6,A7⟩:=ce3 a0
 obtain ⟨Ab,Ac,Ad⟩:=ce3 a1
 obtain ⟨Ae,Af,Ag⟩:=ce3 a2
 go_upto_region 14 with (first | ((first | (go_at_call 11;with_reducible refine (chVB hb R C1).mono ?_) | (go_at_call 12;with_reducible refine (zL hb (C2.out _ (R.below hb))).mono ?_) | (go_at_call 36;with_reducible refine (chVB hb R C3).mono ?_) | (go_at_call 16;with_reducible refine (chVB hb R C4).mono ?_));clear hb;rintro e w1 ⟨rfl,hk,hb⟩;clear A5 A6 A7 Ab Ac Ad Ae Af Ag;replace a0:=zB hk a0;replace a1:=zB hk a1;replace a2:=zB hk a2;obtain ⟨A5,A6,A7⟩:=ce3 a0;obtain ⟨Ab,Ac,Ad⟩:=ce3 a1;obtain ⟨Ae,Af,Ag⟩:=ce3 a2;clear hk) | (go_at_call 38;with_reducible refine (chVB hb R C5).mono ?_;clear hb;rintro e w1 ⟨rfl,hk,hb⟩;clear Ab Ac Ad Ae Af Ag;replace a1:=zB hk a1;replace a2:=zB hk a2;obtain ⟨Ab,Ac,Ad⟩:=ce3 a1;obtain ⟨Ae,Af,Ag⟩:=ce3 a2;clear hk))
 clear A5 A6 A7 a0
 refine wp_alloc1 (fun w1 Aa hk=>?_)
 clear Ab Ac Ad Ae Af Ag
 replace a1:=zB hk a1
 replace a2:=zB hk a2
 obtain ⟨Ab,Ac,Ad⟩:=ce3 a1
 obtain ⟨Ae,Af,Ag⟩:=ce3 a2
 replace hb:=hb.trans (hk.mono hb.size)
 clear hk
 obtain ⟨Ah,Ai,Aj⟩:=ce3 Aa
 go_wp2
 refine wp_alloc1 (fun w1 alp0 hk=>?_)
 clear Ab Ac Ad Ae Af Ag Ah Ai Aj
 replace a1:=zB hk a1
 replace a2:=zB hk a2
 replace Aa:=zB hk Aa
 obtain ⟨Ab,Ac,Ad⟩:=ce3 a1
 obtain ⟨Ae,Af,Ag⟩:=ce3 a2
 obtain ⟨Ah,Ai,Aj⟩:=ce3 Aa
 replace hb:=hb.trans (hk.mono hb.size)
 clear hk
 obtain ⟨Ak,Al,Am,An,Ao,Ap⟩:=ce6 alp0
 have HA1:=Lib.hid a1
 have HA2:=Lib.hid a2
 have HAg14_0:=Lib.hid Aa
 have HAlp0:=Lib.hid alp0
 have HB:=Lib.hid hb
 clear hb Ab Ac Ad Ae Af Ag Ah Ai Aj Ak Al Am An Ao Ap a1 a2 Aa alp0
 go_loopw [100,9] (fun i e wr=>((i = .int .i64 0∧e = .int .i64 0)∨(i = .int .i64 1∧e = .int .i64 0)∨(i = .int .i64 2∧e = .int .i64 0))∧Below w1.heap.size w1 wr) (fun i _ _=>2 - (intOf i).toNat)
 case atStart=>exact ⟨Or.inl ⟨rfl,rfl⟩,Below.refl _ _⟩
 case round =>
   obtain ⟨⟨rfl,rfl⟩ | ⟨rfl,rfl⟩ | ⟨rfl,rfl⟩,hw⟩:=hrel
   · have y0:=zC hw (zA HAlp0.out:w1.cell? ⟨_,0,none⟩=some (Value.string s3))
     have y1:=zC hw (zA HAlp0.out:w1.cell? ⟨_,1,none⟩=some (Value.string s4))
     have y2:=zC hw (zA HAlp0.out:w1.cell? ⟨_,2,none⟩=some (Value.string s5))
     go_wp2_with (first | (go_at_call 27;(refine calls_alloc1 (fun w9 a9 hk=>?_));replace hw:=hw.trans (hk.mono hw.size);clear hk;(with_reducible refine (zK hw (G_cD.out _ (R.below (HB.out.trans (hw.mono HB.out.size))))).mono ?_);clear hw;rintro e w8 ⟨rfl,hk,hw⟩;replace a9:=zB hk a9;clear hk;have x9:w8.cell? ⟨_,2,none⟩=some (Value.string s5):=zA a9;clear a9) | (go_at_call 21;(with_reducible refine (zL hw (G_cR1.out _ (R.below (HB.out.trans (hw.mono HB.out.size))))).mono ?_);clear hw;rintro e w7 ⟨rfl,hk,hw⟩;clear hk))
     go_roundw
     case rel=>exact ⟨Or.inr (Or.inl ⟨rfl,rfl⟩),hw⟩
     case measure=>simp [intOf]
   · have y0:=zC hw (zA HAlp0.out:w1.cell? ⟨_,3,none⟩=some (Value.string s6))
     have y1:=zC hw (zA HAlp0.out:w1.cell? ⟨_,4,none⟩=some (Value.string s7))
     have y2:=zC hw (zA HAlp0.out:w1.cell? ⟨_,5,none⟩=some (Value.string s8))
     go_wp2_with (first | (go_at_call 27;(refine calls_alloc1 (fun w9 a9 hk=>?_));replace hw:=hw.trans (hk.mono hw.size);clear hk;(with_reducible refine (zK hw (G_cD2.out _ (R.below (HB.out.trans (hw.mono HB.out.size))))).mono ?_);clear hw;rintro e w8 ⟨rfl,hk,hw⟩;replace a9:=zB hk a9;clear hk;have x9:w8.cell? ⟨_,2,none⟩=some (Value.string s8):=zA a9;clear a9) | (go_at_call 21;(with_reducible refine (zL hw (G_cR2.out _ (R.below (HB.out.trans (hw.mono HB.out.size))))).mono ?_);clear hw;rintro e w7 ⟨rfl,hk,hw⟩;clear hk))
     go_roundw
     case rel=>exact ⟨Or.inr (Or.inr ⟨rfl,rfl⟩),hw⟩
     case measure=>simp [intOf]
   · obtain ⟨w1,ew⟩:∃ w1,w1=wr:=⟨_,rfl⟩
     subst ew
     have hb:=HB.out.trans (hw.mono HB.out.size)
     have a1:=zB hw HA1.out
     obtain ⟨Ab,Ac,Ad⟩:=ce3 a1
     have a2:=zB hw HA2.out
     obtain ⟨Ae,Af,Ag⟩:=ce3 a2
     have Aa:=zB hw HAg14_0.out
     obtain ⟨Ah,Ai,Aj⟩:=ce3 Aa
     have alp0:=zB hw HAlp0.out
     obtain ⟨Ak,Al,Am,An,Ao,Ap⟩:=ce6 alp0
     clear hw
     go_upto_region 23 with fail
     obtain ⟨Aq,Ar,As⟩:=cy3 a1
     obtain ⟨At,Au,Av⟩:=cy3 a2
     obtain ⟨Aw,Ax,Ay⟩:=cy3 Aa
     obtain ⟨Az,A0,A1,A2,A3,A4⟩:=cy6 alp0
     have A8:=rrV C6 R hb
     have A9:=rrV C7 R hb
     have Ba:=rrV C8 R hb
     refine wp_region_quiet_below (by first | assumption | kernel_rfl) (by kernel_rfl) ?_
     repeat (quiet_step (first | (with_reducible exact A8.out _ _) | (with_reducible exact A9.out _ _) | (with_reducible exact Ba.out _ _)))
     refine wpQuiet_nil ?_
     intro w1 hw'
     obtain ⟨hk,hb⟩:=zQ hb hw'
     clear Ab Ac Ad Ae Af Ag Ah Ai Aj Ak Al Am An Ao Ap
     replace a1:=zB hk a1
     replace a2:=zB hk a2
     replace Aa:=zB hk Aa
     replace alp0:=zB hk alp0
     obtain ⟨Ab,Ac,Ad⟩:=ce3 a1
     obtain ⟨Ae,Af,Ag⟩:=ce3 a2
     obtain ⟨Ah,Ai,Aj⟩:=ce3 Aa
     obtain ⟨Ak,Al,Am,An,Ao,Ap⟩:=ce6 alp0
     clear A8 A9 Ba Aq Ar As At Au Av Aw Ax Ay Az A0 A1 A2 A3 A4
     clear hk hw'
     go_upto_region 27 with fail
     obtain ⟨Aq,Ar,As⟩:=cy3 a1
     obtain ⟨At,Au,Av⟩:=cy3 a2
     obtain ⟨Aw,Ax,Ay⟩:=cy3 Aa
     obtain ⟨Az,A0,A1,A2,A3,A4⟩:=cy6 alp0
     refine wp_region_mid 7 1 (by first | assumption | kernel_rfl) (by kernel_rfl) ?_
     simp only [List.take_succ_cons,List.take_zero,List.drop_succ_cons,List.drop_zero]
     repeat (quiet_step (first | fail))
     refine wpQuiet_nil ?_
     intro w1 hw'
     obtain ⟨hk,hb⟩:=zQ hb hw'
     clear Ab Ac Ad Ae Af Ag Ah Ai Aj Ak Al Am An Ao Ap
     replace a1:=zB hk a1
     replace a2:=zB hk a2
     replace Aa:=zB hk Aa
     replace alp0:=zB hk alp0
     obtain ⟨Ab,Ac,Ad⟩:=ce3 a1
     obtain ⟨Ae,Af,Ag⟩:=ce3 a2
     obtain ⟨Ah,Ai,Aj⟩:=ce3 Aa
     obtain ⟨Ak,Al,Am,An,Ao,Ap⟩:=ce6 alp0
     clear Aq Ar As At Au Av Aw Ax Ay Az A0 A1 A2 A3 A4
     clear hk hw'
     go_wp2_with (go_at_call 21;with_reducible refine (zL hb (C9.out _ (R.below hb))).mono ?_;clear hb;rintro e w1 ⟨rfl,hk,hb⟩;clear Ab Ac Ad Ae Af Ag Ah Ai Aj Ak Al Am An Ao Ap;replace a1:=zB hk a1;replace a2:=zB hk a2;replace Aa:=zB hk Aa;replace alp0:=zB hk alp0;obtain ⟨Ab,Ac,Ad⟩:=ce3 a1;obtain ⟨Ae,Af,Ag⟩:=ce3 a2;obtain ⟨Ah,Ai,Aj⟩:=ce3 Aa;obtain ⟨Ak,Al,Am,An,Ao,Ap⟩:=ce6 alp0;clear hk)
     obtain ⟨Aq,Ar,As⟩:=cy3 a1
     obtain ⟨At,Au,Av⟩:=cy3 a2
     obtain ⟨Aw,Ax,Ay⟩:=cy3 Aa
     obtain ⟨Az,A0,A1,A2,A3,A4⟩:=cy6 alp0
     have Bb:=rrV C10 R hb
     have Bc:=rrV C11 R hb
     refine ⟨w1,Below.refl _ _,?_⟩
     repeat (quiet_step (first | (with_reducible exact Bb.out _ _) | (with_reducible exact Bc.out _ _)))
     refine wpQuiet_nil ?_
     intro w1 hw'
     obtain ⟨hk,hb⟩:=zQ hb hw'
     clear Ab Ac Ad Ae Af Ag Ah Ai Aj Ak Al Am An Ao Ap
     replace a1:=zB hk a1
     replace a2:=zB hk a2
     replace Aa:=zB hk Aa
     replace alp0:=zB hk alp0
     obtain ⟨Ab,Ac,Ad⟩:=ce3 a1
     obtain ⟨Ae,Af,Ag⟩:=ce3 a2
     obtain ⟨Ah,Ai,Aj⟩:=ce3 Aa
     obtain ⟨Ak,Al,Am,An,Ao,Ap⟩:=ce6 alp0
     clear Bb Bc Aq Ar As At Au Av Aw Ax Ay Az A0 A1 A2 A3 A4
     clear hk hw'
     go_wp2
     first | go_ret | go_ret2 | go_ret3
     exact ⟨rfl,hb⟩
theorem falls_3B  (s0 s1 s2 s3 s4 s5 s6 s7 s8:ByteArray) (hs:s0.size≤24∧s1.size≤24∧s2.size≤24∧s3.size≤24∧s4.size≤24∧s5.size≤24∧s6.size≤24∧s7.size≤24∧s8.size≤24) (cA:CV 36 #[.agg #[.string s0,.string s1,.string s2],.agg #[.string s3,.string s4]] (.tuple #[.string ⟨#[]⟩,.int .i64 21])) (cN:CV 16 #[.agg #[.string s0,.string s1,.string s2]] (.int .i64 0)) (cD:CV 27 #[.agg #[.string s3,.string s4]] (.int .i64 0)) (cR1:∀ w,EnvV w→Calls Tryz.prog 21 #[.slice (some ⟨w.heap.size,0,none⟩) 1 1] (w.alloc (Obj.cells #[Value.string s5] 22)) (Ret w (.bool false))) (cT:CV 38 #[.agg #[.string s3,.string s4,.string s5],.agg #[.string s6,.string s7,.string s8]] (.tuple #[.agg #[.string ⟨#[]⟩,.string ⟨#[]⟩,.string ⟨#[]⟩],.int .i64 2])) (hz:s2.toList=[48]) (w:World) (R:EnvV w) :
   Calls Tryz.prog 9 #[.agg #[.string s0,.string s1,.string s2],.agg #[.string s3,.string s4,.string s5],.agg #[.string s6,.string s7,.string s8]] w (Ret w (.bool true)):=by
 have G_cD:=Lib.hid cD
 have G_cR1:=Lib.hid cR1
 have c1:=known15_any
 have c2:∀ w,EnvV w→Calls Tryz.prog 12 #[.slice (some ⟨w.heap.size,0,none⟩) 9 9] (w.alloc (Obj.cells #[Value.string s0,Value.string s1,Value.string s2,Value.string s3,Value.string s4,Value.string s5,Value.string s6,Value.string s7,Value.string s8] 22)) (Ret w (.bool true)):=fun w R=>short9 s0 s1 s2 s3 s4 s5 s6 s7 s8 true ⟨fun _=>hs,fun _=>rfl⟩ (Nat.le_trans hs.1 (by decide)) (Nat.le_trans hs.2.1 (by decide)) (Nat.le_trans hs.2.2.1 (by decide)) (Nat.le_trans hs.2.2.2.1 (by decide)) (Nat.le_trans hs.2.2.2.2.1 (by decide)) (Nat.le_trans hs.2.2.2.2.2.1 (by decide)) (Nat.le_trans hs.2.2.2.2.2.2.1 (by decide)) (Nat.le_trans hs.2.2.2.2.2.2.2.1 (by decide)) (Nat.le_trans hs.2.2.2.2.2.2.2.2 (by decide)) w R
 have c3:=cA
 have c4:=cN
 have c5:=cD
 have c6:=cT
 have ez:(s2.toList == [48])=true:=beq_iff_eq.2 hz
 have pz:s2.toList=[48]:=hz
 have C1:=Lib.hid c1
 have C2:=Lib.hid c2
 have C3:=Lib.hid c3
 have C4:=Lib.hid c4
 have C5:=Lib.hid c5
 have C6:=Lib.hid c6
 clear c1 c2 c3 c4 c5 c6 cA cN cD cR1 cT hs hz
 have hb:=Below.refl w.heap.size w
 go_enter Tryz.func9,Tryz.ntmps9
 go_upto_region 1 with fail
 refine wp_alloc3 (fun w1 a0 a1 a2 hk=>?_)
 replace hb:=hb.trans (hk.mono hb.size)
 clear hk
 obtain ⟨Aq,Ar,As⟩:=ce3 a0
 obtain ⟨Aa,Ab,Ac⟩:=ce3 a1
 obtain ⟨Ad,Ae,Af⟩:=ce3 a2
 go_upto_region 14 with (first | ((first | (go_at_call 11;with_reducible refine (chVB hb R C1).mono ?_) | (go_at_call 12;with_reducible refine (zL hb (C2.out _ (R.below hb))).mono ?_) | (go_at_call 36;with_reducible refine (chVB hb R C3).mono ?_) | (go_at_call 16;with_reducible refine (chVB hb R C4).mono ?_) | (go_at_call 27;with_reducible refine (chVB hb R C5).mono ?_));clear hb;rintro e w1 ⟨rfl,hk,hb⟩;clear Aq Ar As Aa Ab Ac Ad Ae Af;replace a0:=zB hk a0;replace a1:=zB hk a1;replace a2:=zB hk a2;obtain ⟨Aq,Ar,As⟩:=ce3 a0;obtain ⟨Aa,Ab,Ac⟩:=ce3 a1;obtain ⟨Ad,Ae,Af⟩:=ce3 a2;clear hk) | (go_at_call 38;with_reducible refine (chVB hb R C6).mono ?_;clear hb;rintro e w1 ⟨rfl,hk,hb⟩;clear Aa Ab Ac Ad Ae Af;replace a1:=zB hk a1;replace a2:=zB hk a2;obtain ⟨Aa,Ab,Ac⟩:=ce3 a1;obtain ⟨Ad,Ae,Af⟩:=ce3 a2;clear hk))
 clear Aq Ar As a0
 refine wp_alloc1 (fun w1 Ag hk=>?_)
 clear Aa Ab Ac Ad Ae Af
 replace a1:=zB hk a1
 replace a2:=zB hk a2
 obtain ⟨Aa,Ab,Ac⟩:=ce3 a1
 obtain ⟨Ad,Ae,Af⟩:=ce3 a2
 replace hb:=hb.trans (hk.mono hb.size)
 clear hk
 obtain ⟨Ah,Ai,Aj⟩:=ce3 Ag
 go_wp2
 refine wp_alloc1 (fun w1 alp0 hk=>?_)
 clear Aa Ab Ac Ad Ae Af Ah Ai Aj
 replace a1:=zB hk a1
 replace a2:=zB hk a2
 replace Ag:=zB hk Ag
 obtain ⟨Aa,Ab,Ac⟩:=ce3 a1
 obtain ⟨Ad,Ae,Af⟩:=ce3 a2
 obtain ⟨Ah,Ai,Aj⟩:=ce3 Ag
 replace hb:=hb.trans (hk.mono hb.size)
 clear hk
 obtain ⟨Ak,Al,Am,An,Ao,Ap⟩:=ce6 alp0
 have HA1:=Lib.hid a1
 have HA2:=Lib.hid a2
 have HAg14_0:=Lib.hid Ag
 have HAlp0:=Lib.hid alp0
 have HB:=Lib.hid hb
 clear hb Aa Ab Ac Ad Ae Af Ah Ai Aj Ak Al Am An Ao Ap a1 a2 Ag alp0
 go_loopw [100,9] (fun i e wr=>((i = .int .i64 0∧e = .int .i64 0)∨(i = .int .i64 1∧e = .int .i64 2)∨(i = .int .i64 2∧e = .int .i64 2))∧Below w1.heap.size w1 wr) (fun i _ _=>2 - (intOf i).toNat)
 case atStart=>exact ⟨Or.inl ⟨rfl,rfl⟩,Below.refl _ _⟩
 case round =>
   obtain ⟨⟨rfl,rfl⟩ | ⟨rfl,rfl⟩ | ⟨rfl,rfl⟩,hw⟩:=hrel
   · have y0:=zC hw (zA HAlp0.out:w1.cell? ⟨_,0,none⟩=some (Value.string s3))
     have y1:=zC hw (zA HAlp0.out:w1.cell? ⟨_,1,none⟩=some (Value.string s4))
     have y2:=zC hw (zA HAlp0.out:w1.cell? ⟨_,2,none⟩=some (Value.string s5))
     go_wp2_with (first | (go_at_call 27;(refine calls_alloc1 (fun w9 a9 hk=>?_));replace hw:=hw.trans (hk.mono hw.size);clear hk;(with_reducible refine (zK hw (G_cD.out _ (R.below (HB.out.trans (hw.mono HB.out.size))))).mono ?_);clear hw;rintro e w8 ⟨rfl,hk,hw⟩;replace a9:=zB hk a9;clear hk;have x9:w8.cell? ⟨_,2,none⟩=some (Value.string s5):=zA a9;clear a9) | (go_at_call 21;(with_reducible refine (zL hw (G_cR1.out _ (R.below (HB.out.trans (hw.mono HB.out.size))))).mono ?_);clear hw;rintro e w7 ⟨rfl,hk,hw⟩;clear hk))
     go_roundw
     case rel=>exact ⟨Or.inr (Or.inl ⟨rfl,rfl⟩),hw⟩
     case measure=>simp [intOf]
   · have y0:=zC hw (zA HAlp0.out:w1.cell? ⟨_,3,none⟩=some (Value.string s6))
     have y1:=zC hw (zA HAlp0.out:w1.cell? ⟨_,4,none⟩=some (Value.string s7))
     have y2:=zC hw (zA HAlp0.out:w1.cell? ⟨_,5,none⟩=some (Value.string s8))
     go_wp2
     go_roundw
     case rel=>exact ⟨Or.inr (Or.inr ⟨rfl,rfl⟩),by first | exact hw | exact hw.alloc hw.size _⟩
     case measure=>simp [intOf]
   · obtain ⟨w1,ew⟩:∃ w1,w1=wr:=⟨_,rfl⟩
     subst ew
     have hb:=HB.out.trans (hw.mono HB.out.size)
     have a1:=zB hw HA1.out
     obtain ⟨Aa,Ab,Ac⟩:=ce3 a1
     have a2:=zB hw HA2.out
     obtain ⟨Ad,Ae,Af⟩:=ce3 a2
     have Ag:=zB hw HAg14_0.out
     obtain ⟨Ah,Ai,Aj⟩:=ce3 Ag
     have alp0:=zB hw HAlp0.out
     obtain ⟨Ak,Al,Am,An,Ao,Ap⟩:=ce6 alp0
     clear hw
     go_upto_region 23 with fail
     go_quiet (fail)
     replace hb:=hb.trans ((below_drewN w1 nq).mono hb.size)
     replace Aa:=(show (w1.drewN nq).cell? _=_ from Aa)
     replace Ab:=(show (w1.drewN nq).cell? _=_ from Ab)
     replace Ac:=(show (w1.drewN nq).cell? _=_ from Ac)
     replace a1:=(show (w1.drewN nq).heap[_]? = _ from a1)
     replace Ad:=(show (w1.drewN nq).cell? _=_ from Ad)
     replace Ae:=(show (w1.drewN nq).cell? _=_ from Ae)
     replace Af:=(show (w1.drewN nq).cell? _=_ from Af)
     replace a2:=(show (w1.drewN nq).heap[_]? = _ from a2)
     replace Ah:=(show (w1.drewN nq).cell? _=_ from Ah)
     replace Ai:=(show (w1.drewN nq).cell? _=_ from Ai)
     replace Aj:=(show (w1.drewN nq).cell? _=_ from Aj)
     replace Ag:=(show (w1.drewN nq).heap[_]? = _ from Ag)
     replace Ak:=(show (w1.drewN nq).cell? _=_ from Ak)
     replace Al:=(show (w1.drewN nq).cell? _=_ from Al)
     replace Am:=(show (w1.drewN nq).cell? _=_ from Am)
     replace An:=(show (w1.drewN nq).cell? _=_ from An)
     replace Ao:=(show (w1.drewN nq).cell? _=_ from Ao)
     replace Ap:=(show (w1.drewN nq).cell? _=_ from Ap)
     replace alp0:=(show (w1.drewN nq).heap[_]? = _ from alp0)
     obtain ⟨w1,hw2⟩:∃ w2,w1.drewN nq=w2:=⟨_,rfl⟩
     rw [hw2] at hb Aa Ab Ac a1 Ad Ae Af a2 Ah Ai Aj Ag Ak Al Am An Ao Ap alp0 ⊢
     clear hw2
     go_wp2
     first | go_ret | go_ret2 | go_ret3
     exact ⟨rfl,hb⟩
theorem falls_3C  (s0 s1 s2 s3 s4 s5 s6 s7 s8:ByteArray) (hs:s0.size≤24∧s1.size≤24∧s2.size≤24∧s3.size≤24∧s4.size≤24∧s5.size≤24∧s6.size≤24∧s7.size≤24∧s8.size≤24) (dw:Int) (cA:CV 36 #[.agg #[.string s0,.string s1,.string s2],.agg #[.string s3,.string s4]] (.tuple #[.string ⟨#[]⟩,.int .i64 21])) (cN:CV 16 #[.agg #[.string s0,.string s1,.string s2]] (.int .i64 0)) (cD:CV 27 #[.agg #[.string s3,.string s4]] (.int .i64 0)) (cR1:∀ w,EnvV w→Calls Tryz.prog 21 #[.slice (some ⟨w.heap.size,0,none⟩) 1 1] (w.alloc (Obj.cells #[Value.string s5] 22)) (Ret w (.bool true))) (cD2:CV 27 #[.agg #[.string s6,.string s7]] (.int .i64 dw)) (cT:CV 38 #[.agg #[.string s3,.string s4,.string s5],.agg #[.string s6,.string s7,.string s8]] (.tuple #[.agg #[.string ⟨#[]⟩,.string ⟨#[]⟩,.string ⟨#[]⟩],.int .i64 dw])) (ndw:dw≠0) (hz:s2.toList=[48]) (w:World) (R:EnvV w) :
   Calls Tryz.prog 9 #[.agg #[.string s0,.string s1,.string s2],.agg #[.string s3,.string s4,.string s5],.agg #[.string s6,.string s7,.string s8]] w (Ret w (.bool true)):=by
 have G_cD:=Lib.hid cD
 have G_cR1:=Lib.hid cR1
 have G_cD2:=Lib.hid cD2
 have c1:=known15_any
 have c2:∀ w,EnvV w→Calls Tryz.prog 12 #[.slice (some ⟨w.heap.size,0,none⟩) 9 9] (w.alloc (Obj.cells #[Value.string s0,Value.string s1,Value.string s2,Value.string s3,Value.string s4,Value.string s5,Value.string s6,Value.string s7,Value.string s8] 22)) (Ret w (.bool true)):=fun w R=>short9 s0 s1 s2 s3 s4 s5 s6 s7 s8 true ⟨fun _=>hs,fun _=>rfl⟩ (Nat.le_trans hs.1 (by decide)) (Nat.le_trans hs.2.1 (by decide)) (Nat.le_trans hs.2.2.1 (by decide)) (Nat.le_trans hs.2.2.2.1 (by decide)) (Nat.le_trans hs.2.2.2.2.1 (by decide)) (Nat.le_trans hs.2.2.2.2.2.1 (by decide)) (Nat.le_trans hs.2.2.2.2.2.2.1 (by decide)) (Nat.le_trans hs.2.2.2.2.2.2.2.1 (by decide)) (Nat.le_trans hs.2.2.2.2.2.2.2.2 (by decide)) w R
 have c3:=cA
 have c4:=cN
 have c5:=cD
 have c6:=cT
 have eqdw:(dw == 0)=false:=beq_eq_false_iff_ne.2 ndw
 have pqdw:¬ dw=0:=ndw
 have ez:(s2.toList == [48])=true:=beq_iff_eq.2 hz
 have pz:s2.toList=[48]:=hz
 have C1:=Lib.hid c1
 have C2:=Lib.hid c2
 have C3:=Lib.hid c3
 have C4:=Lib.hid c4
 have C5:=Lib.hid c5
 have C6:=Lib.hid c6
 clear c1 c2 c3 c4 c5 c6 cA cN cD cR1 cD2 cT hs ndw hz
 have hb:=Below.refl w.heap.size w
 go_enter Tryz.func9,Tryz.ntmps9
 go_upto_region 1 with fail
 refine wp_alloc3 (fun w1 a0 a1 a2 hk=>?_)
 replace hb:=hb.trans (hk.mono hb.size)
 clear hk
 obtain ⟨Aq,Ar,As⟩:=ce3 a0
 obtain ⟨Aa,Ab,Ac⟩:=ce3 a1
 obtain ⟨Ad,Ae,Af⟩:=ce3 a2
 go_upto_region 14 with (first | ((first | (go_at_call 11;with_reducible refine (chVB hb R C1).mono ?_) | (go_at_call 12;with_reducible refine (zL hb (C2.out _ (R.below hb))).mono ?_) | (go_at_call 36;with_reducible refine (chVB hb R C3).mono ?_) | (go_at_call 16;with_reducible refine (chVB hb R C4).mono ?_) | (go_at_call 27;with_reducible refine (chVB hb R C5).mono ?_));clear hb;rintro e w1 ⟨rfl,hk,hb⟩;clear Aq Ar As Aa Ab Ac Ad Ae Af;replace a0:=zB hk a0;replace a1:=zB hk a1;replace a2:=zB hk a2;obtain ⟨Aq,Ar,As⟩:=ce3 a0;obtain ⟨Aa,Ab,Ac⟩:=ce3 a1;obtain ⟨Ad,Ae,Af⟩:=ce3 a2;clear hk) | (go_at_call 38;with_reducible refine (chVB hb R C6).mono ?_;clear hb;rintro e w1 ⟨rfl,hk,hb⟩;clear Aa Ab Ac Ad Ae Af;replace a1:=zB hk a1;replace a2:=zB hk a2;obtain ⟨Aa,Ab,Ac⟩:=ce3 a1;obtain ⟨Ad,Ae,Af⟩:=ce3 a2;clear hk))
 clear Aq Ar As a0
 refine wp_alloc1 (fun w1 Ag hk=>?_)
 clear Aa Ab Ac Ad Ae Af
 replace a1:=zB hk a1
 replace a2:=zB hk a2
 obtain ⟨Aa,Ab,Ac⟩:=ce3 a1
 obtain ⟨Ad,Ae,Af⟩:=ce3 a2
 replace hb:=hb.trans (hk.mono hb.size)
 clear hk
 obtain ⟨Ah,Ai,Aj⟩:=ce3 Ag
 go_wp2
 refine wp_alloc1 (fun w1 alp0 hk=>?_)
 clear Aa Ab Ac Ad Ae Af Ah Ai Aj
 replace a1:=zB hk a1
 replace a2:=zB hk a2
 replace Ag:=zB hk Ag
 obtain ⟨Aa,Ab,Ac⟩:=ce3 a1
 obtain ⟨Ad,Ae,Af⟩:=ce3 a2
 obtain ⟨Ah,Ai,Aj⟩:=ce3 Ag
 replace hb:=hb.trans (hk.mono hb.size)
 clear hk
 obtain ⟨Ak,Al,Am,An,Ao,Ap⟩:=ce6 alp0
 have HA1:=Lib.hid a1
 have HA2:=Lib.hid a2
 have HAg14_0:=Lib.hid Ag
 have HAlp0:=Lib.hid alp0
 have HB:=Lib.hid hb
 clear hb Aa Ab Ac Ad Ae Af Ah Ai Aj Ak Al Am An Ao Ap a1 a2 Ag alp0
 go_loopw [100,9] (fun i e wr=>((i = .int .i64 0∧e = .int .i64 0)∨(i = .int .i64 1∧e = .int .i64 0)∨(i = .int .i64 2∧e = .int .i64 dw))∧Below w1.heap.size w1 wr) (fun i _ _=>2 - (intOf i).toNat)
 case atStart=>exact ⟨Or.inl ⟨rfl,rfl⟩,Below.refl _ _⟩
 case round =>
   obtain ⟨⟨rfl,rfl⟩ | ⟨rfl,rfl⟩ | ⟨rfl,rfl⟩,hw⟩:=hrel
   · have y0:=zC hw (zA HAlp0.out:w1.cell? ⟨_,0,none⟩=some (Value.string s3))
     have y1:=zC hw (zA HAlp0.out:w1.cell? ⟨_,1,none⟩=some (Value.string s4))
     have y2:=zC hw (zA HAlp0.out:w1.cell? ⟨_,2,none⟩=some (Value.string s5))
     go_wp2_with (first | (go_at_call 27;(refine calls_alloc1 (fun w9 a9 hk=>?_));replace hw:=hw.trans (hk.mono hw.size);clear hk;(with_reducible refine (zK hw (G_cD.out _ (R.below (HB.out.trans (hw.mono HB.out.size))))).mono ?_);clear hw;rintro e w8 ⟨rfl,hk,hw⟩;replace a9:=zB hk a9;clear hk;have x9:w8.cell? ⟨_,2,none⟩=some (Value.string s5):=zA a9;clear a9) | (go_at_call 21;(with_reducible refine (zL hw (G_cR1.out _ (R.below (HB.out.trans (hw.mono HB.out.size))))).mono ?_);clear hw;rintro e w7 ⟨rfl,hk,hw⟩;clear hk))
     go_roundw
     case rel=>exact ⟨Or.inr (Or.inl ⟨rfl,rfl⟩),hw⟩
     case measure=>simp [intOf]
   · have y0:=zC hw (zA HAlp0.out:w1.cell? ⟨_,3,none⟩=some (Value.string s6))
     have y1:=zC hw (zA HAlp0.out:w1.cell? ⟨_,4,none⟩=some (Value.string s7))
     have y2:=zC hw (zA HAlp0.out:w1.cell? ⟨_,5,none⟩=some (Value.string s8))
     go_wp2_with (go_at_call 27;(refine calls_alloc1 (fun w9 a9 hk=>?_));replace hw:=hw.trans (hk.mono hw.size);clear hk;(with_reducible refine (zK hw (G_cD2.out _ (R.below (HB.out.trans (hw.mono HB.out.size))))).mono ?_);clear hw;rintro e w8 ⟨rfl,hk,hw⟩;replace a9:=zB hk a9;clear hk;have x9:w8.cell? ⟨_,2,none⟩=some (Value.string s8):=zA a9;clear a9)
     go_roundw
     case rel=>exact ⟨Or.inr (Or.inr ⟨rfl,rfl⟩),hw⟩
     case measure=>simp [intOf]
   · obtain ⟨w1,ew⟩:∃ w1,w1=wr:=⟨_,rfl⟩
     subst ew
     have hb:=HB.out.trans (hw.mono HB.out.size)
     have a1:=zB hw HA1.out
     obtain ⟨Aa,Ab,Ac⟩:=ce3 a1
     have a2:=zB hw HA2.out
     obtain ⟨Ad,Ae,Af⟩:=ce3 a2
     have Ag:=zB hw HAg14_0.out
     obtain ⟨Ah,Ai,Aj⟩:=ce3 Ag
     have alp0:=zB hw HAlp0.out
     obtain ⟨Ak,Al,Am,An,Ao,Ap⟩:=ce6 alp0
     clear hw
     go_upto_region 23 with fail
     go_quiet (fail)
     replace hb:=hb.trans ((below_drewN w1 nq).mono hb.size)
     replace Aa:=(show (w1.drewN nq).cell? _=_ from Aa)
     replace Ab:=(show (w1.drewN nq).cell? _=_ from Ab)
     replace Ac:=(show (w1.drewN nq).cell? _=_ from Ac)
     replace a1:=(show (w1.drewN nq).heap[_]? = _ from a1)
     replace Ad:=(show (w1.drewN nq).cell? _=_ from Ad)
     replace Ae:=(show (w1.drewN nq).cell? _=_ from Ae)
     replace Af:=(show (w1.drewN nq).cell? _=_ from Af)
     replace a2:=(show (w1.drewN nq).heap[_]? = _ from a2)
     replace Ah:=(show (w1.drewN nq).cell? _=_ from Ah)
     replace Ai:=(show (w1.drewN nq).cell? _=_ from Ai)
     replace Aj:=(show (w1.drewN nq).cell? _=_ from Aj)
     replace Ag:=(show (w1.drewN nq).heap[_]? = _ from Ag)
     replace Ak:=(show (w1.drewN nq).cell? _=_ from Ak)
     replace Al:=(show (w1.drewN nq).cell? _=_ from Al)
     replace Am:=(show (w1.drewN nq).cell? _=_ from Am)
     replace An:=(show (w1.drewN nq).cell? _=_ from An)
     replace Ao:=(show (w1.drewN nq).cell? _=_ from Ao)
     replace Ap:=(show (w1.drewN nq).cell? _=_ from Ap)
     replace alp0:=(show (w1.drewN nq).heap[_]? = _ from alp0)
     obtain ⟨w1,hw2⟩:∃ w2,w1.drewN nq=w2:=⟨_,rfl⟩
     rw [hw2] at hb Aa Ab Ac a1 Ad Ae Af a2 Ah Ai Aj Ag Ak Al Am An Ao Ap alp0 ⊢
     clear hw2
     go_wp2
     first | go_ret | go_ret2 | go_ret3
     exact ⟨rfl,hb⟩
theorem falls_3D  (s0 s1 s2 s3 s4 s5 s6 s7 s8:ByteArray) (hs:s0.size≤24∧s1.size≤24∧s2.size≤24∧s3.size≤24∧s4.size≤24∧s5.size≤24∧s6.size≤24∧s7.size≤24∧s8.size≤24) (cA:CV 36 #[.agg #[.string s0,.string s1,.string s2],.agg #[.string s3,.string s4]] (.tuple #[.string ⟨#[]⟩,.int .i64 21])) (cN:CV 16 #[.agg #[.string s0,.string s1,.string s2]] (.int .i64 0)) (cD:CV 27 #[.agg #[.string s3,.string s4]] (.int .i64 0)) (cR1:∀ w,EnvV w→Calls Tryz.prog 21 #[.slice (some ⟨w.heap.size,0,none⟩) 1 1] (w.alloc (Obj.cells #[Value.string s5] 22)) (Ret w (.bool true))) (cD2:CV 27 #[.agg #[.string s6,.string s7]] (.int .i64 0)) (cR2:∀ w,EnvV w→Calls Tryz.prog 21 #[.slice (some ⟨w.heap.size,0,none⟩) 1 1] (w.alloc (Obj.cells #[Value.string s8] 22)) (Ret w (.bool false))) (cT:CV 38 #[.agg #[.string s3,.string s4,.string s5],.agg #[.string s6,.string s7,.string s8]] (.tuple #[.agg #[.string ⟨#[]⟩,.string ⟨#[]⟩,.string ⟨#[]⟩],.int .i64 2])) (hz:s2.toList=[48]) (w:World) (R:EnvV w) :
   Calls Tryz.prog 9 #[.agg #[.string s0,.string s1,.string s2],.agg #[.string s3,.string s4,.string s5],.agg #[.string s6,.string s7,.string s8]] w (Ret w (.bool true)):=by
 have G_cD:=Lib.hid cD
 have G_cR1:=Lib.hid cR1
 have G_cD2:=Lib.hid cD2
 have G_cR2:=Lib.hid cR2
 have c1:=known15_any
 have c2:∀ w,EnvV w→Calls Tryz.prog 12 #[.slice (some ⟨w.heap.size,0,none⟩) 9 9] (w.alloc (Obj.cells #[Value.string s0,Value.string s1,Value.string s2,Value.string s3,Value.string s4,Value.string s5,Value.string s6,Value.string s7,Value.string s8] 22)) (Ret w (.bool true)):=fun w R=>short9 s0 s1 s2 s3 s4 s5 s6 s7 s8 true ⟨fun _=>hs,fun _=>rfl⟩ (Nat.le_trans hs.1 (by decide)) (Nat.le_trans hs.2.1 (by decide)) (Nat.le_trans hs.2.2.1 (by decide)) (Nat.le_trans hs.2.2.2.1 (by decide)) (Nat.le_trans hs.2.2.2.2.1 (by decide)) (Nat.le_trans hs.2.2.2.2.2.1 (by decide)) (Nat.le_trans hs.2.2.2.2.2.2.1 (by decide)) (Nat.le_trans hs.2.2.2.2.2.2.2.1 (by decide)) (Nat.le_trans hs.2.2.2.2.2.2.2.2 (by decide)) w R
 have c3:=cA
 have c4:=cN
 have c5:=cD
 have c6:=cT
 have ez:(s2.toList == [48])=true:=beq_iff_eq.2 hz
 have pz:s2.toList=[48]:=hz
 have C1:=Lib.hid c1
 have C2:=Lib.hid c2
 have C3:=Lib.hid c3
 have C4:=Lib.hid c4
 have C5:=Lib.hid c5
 have C6:=Lib.hid c6
 clear c1 c2 c3 c4 c5 c6 cA cN cD cR1 cD2 cR2 cT hs hz
 have hb:=Below.refl w.heap.size w
 go_enter Tryz.func9,Tryz.ntmps9
 go_upto_region 1 with fail
 refine wp_alloc3 (fun w1 a0 a1 a2 hk=>?_)
 replace hb:=hb.trans (hk.mono hb.size)
 clear hk
 obtain ⟨Aq,Ar,As⟩:=ce3 a0
 obtain ⟨Aa,Ab,Ac⟩:=ce3 a1
 obtain ⟨Ad,Ae,Af⟩:=ce3 a2
 go_upto_region 14 with (first | ((first | (go_at_call 11;with_reducible refine (chVB hb R C1).mono ?_) | (go_at_call 12;with_reducible refine (zL hb (C2.out _ (R.below hb))).mono ?_) | (go_at_call 36;with_reducible refine (chVB hb R C3).mono ?_) | (go_at_call 16;with_reducible refine (chVB hb R C4).mono ?_) | (go_at_call 27;with_reducible refine (chVB hb R C5).mono ?_));clear hb;rintro e w1 ⟨rfl,hk,hb⟩;clear Aq Ar As Aa Ab Ac Ad Ae Af;replace a0:=zB hk a0;replace a1:=zB hk a1;replace a2:=zB hk a2;obtain ⟨Aq,Ar,As⟩:=ce3 a0;obtain ⟨Aa,Ab,Ac⟩:=ce3 a1;obtain ⟨Ad,Ae,Af⟩:=ce3 a2;clear hk) | (go_at_call 38;with_reducible refine (chVB hb R C6).mono ?_;clear hb;rintro e w1 ⟨rfl,hk,hb⟩;clear Aa Ab Ac Ad Ae Af;replace a1:=zB hk a1;replace a2:=zB hk a2;obtain ⟨Aa,Ab,Ac⟩:=ce3 a1;obtain ⟨Ad,Ae,Af⟩:=ce3 a2;clear hk))
 clear Aq Ar As a0
 refine wp_alloc1 (fun w1 Ag hk=>?_)
 clear Aa Ab Ac Ad Ae Af
 replace a1:=zB hk a1
 replace a2:=zB hk a2
 obtain ⟨Aa,Ab,Ac⟩:=ce3 a1
 obtain ⟨Ad,Ae,Af⟩:=ce3 a2
 replace hb:=hb.trans (hk.mono hb.size)
 clear hk
 obtain ⟨Ah,Ai,Aj⟩:=ce3 Ag
 go_wp2
 refine wp_alloc1 (fun w1 alp0 hk=>?_)
 clear Aa Ab Ac Ad Ae Af Ah Ai Aj
 replace a1:=zB hk a1
 replace a2:=zB hk a2
 replace Ag:=zB hk Ag
 obtain ⟨Aa,Ab,Ac⟩:=ce3 a1
 obtain ⟨Ad,Ae,Af⟩:=ce3 a2
 obtain ⟨Ah,Ai,Aj⟩:=ce3 Ag
 replace hb:=hb.trans (hk.mono hb.size)
 clear hk
 obtain ⟨Ak,Al,Am,An,Ao,Ap⟩:=ce6 alp0
 have HA1:=Lib.hid a1
 have HA2:=Lib.hid a2
 have HAg14_0:=Lib.hid Ag
 have HAlp0:=Lib.hid alp0
 have HB:=Lib.hid hb
 clear hb Aa Ab Ac Ad Ae Af Ah Ai Aj Ak Al Am An Ao Ap a1 a2 Ag alp0
 go_loopw [100,9] (fun i e wr=>((i = .int .i64 0∧e = .int .i64 0)∨(i = .int .i64 1∧e = .int .i64 0)∨(i = .int .i64 2∧e = .int .i64 2))∧Below w1.heap.size w1 wr) (fun i _ _=>2 - (intOf i).toNat)
 case atStart=>exact ⟨Or.inl ⟨rfl,rfl⟩,Below.refl _ _⟩
 case round =>
   obtain ⟨⟨rfl,rfl⟩ | ⟨rfl,rfl⟩ | ⟨rfl,rfl⟩,hw⟩:=hrel
   · have y0:=zC hw (zA HAlp0.out:w1.cell? ⟨_,0,none⟩=some (Value.string s3))
     have y1:=zC hw (zA HAlp0.out:w1.cell? ⟨_,1,none⟩=some (Value.string s4))
     have y2:=zC hw (zA HAlp0.out:w1.cell? ⟨_,2,none⟩=some (Value.string s5))
     go_wp2_with (first | (go_at_call 27;(refine calls_alloc1 (fun w9 a9 hk=>?_));replace hw:=hw.trans (hk.mono hw.size);clear hk;(with_reducible refine (zK hw (G_cD.out _ (R.below (HB.out.trans (hw.mono HB.out.size))))).mono ?_);clear hw;rintro e w8 ⟨rfl,hk,hw⟩;replace a9:=zB hk a9;clear hk;have x9:w8.cell? ⟨_,2,none⟩=some (Value.string s5):=zA a9;clear a9) | (go_at_call 21;(with_reducible refine (zL hw (G_cR1.out _ (R.below (HB.out.trans (hw.mono HB.out.size))))).mono ?_);clear hw;rintro e w7 ⟨rfl,hk,hw⟩;clear hk))
     go_roundw
     case rel=>exact ⟨Or.inr (Or.inl ⟨rfl,rfl⟩),hw⟩
     case measure=>simp [intOf]
   · have y0:=zC hw (zA HAlp0.out:w1.cell? ⟨_,3,none⟩=some (Value.string s6))
     have y1:=zC hw (zA HAlp0.out:w1.cell? ⟨_,4,none⟩=some (Value.string s7))
     have y2:=zC hw (zA HAlp0.out:w1.cell? ⟨_,5,none⟩=some (Value.string s8))
     go_wp2_with (first | (go_at_call 27;(refine calls_alloc1 (fun w9 a9 hk=>?_));replace hw:=hw.trans (hk.mono hw.size);clear hk;(with_reducible refine (zK hw (G_cD2.out _ (R.below (HB.out.trans (hw.mono HB.out.size))))).mono ?_);clear hw;rintro e w8 ⟨rfl,hk,hw⟩;replace a9:=zB hk a9;clear hk;have x9:w8.cell? ⟨_,2,none⟩=some (Value.string s8):=zA a9;clear a9) | (go_at_call 21;(with_reducible refine (zL hw (G_cR2.out _ (R.below (HB.out.trans (hw.mono HB.out.size))))).mono ?_);clear hw;rintro e w7 ⟨rfl,hk,hw⟩;clear hk))
     go_roundw
     case rel=>exact ⟨Or.inr (Or.inr ⟨rfl,rfl⟩),hw⟩
     case measure=>simp [intOf]
   · obtain ⟨w1,ew⟩:∃ w1,w1=wr:=⟨_,rfl⟩
     subst ew
     have hb:=HB.out.trans (hw.mono HB.out.size)
     have a1:=zB hw HA1.out
     obtain ⟨Aa,Ab,Ac⟩:=ce3 a1
     have a2:=zB hw HA2.out
     obtain ⟨Ad,Ae,Af⟩:=ce3 a2
     have Ag:=zB hw HAg14_0.out
     obtain ⟨Ah,Ai,Aj⟩:=ce3 Ag
     have alp0:=zB hw HAlp0.out
     obtain ⟨Ak,Al,Am,An,Ao,Ap⟩:=ce6 alp0
     clear hw
     go_upto_region 23 with fail
     go_quiet (fail)
     replace hb:=hb.trans ((below_drewN w1 nq).mono hb.size)
     replace Aa:=(show (w1.drewN nq).cell? _=_ from Aa)
     replace Ab:=(show (w1.drewN nq).cell? _=_ from Ab)
     replace Ac:=(show (w1.drewN nq).cell? _=_ from Ac)
     replace a1:=(show (w1.drewN nq).heap[_]? = _ from a1)
     replace Ad:=(show (w1.drewN nq).cell? _=_ from Ad)
     replace Ae:=(show (w1.drewN nq).cell? _=_ from Ae)
     replace Af:=(show (w1.drewN nq).cell? _=_ from Af)
     replace a2:=(show (w1.drewN nq).heap[_]? = _ from a2)
     replace Ah:=(show (w1.drewN nq).cell? _=_ from Ah)
     replace Ai:=(show (w1.drewN nq).cell? _=_ from Ai)
     replace Aj:=(show (w1.drewN nq).cell? _=_ from Aj)
     replace Ag:=(show (w1.drewN nq).heap[_]? = _ from Ag)
     replace Ak:=(show (w1.drewN nq).cell? _=_ from Ak)
     replace Al:=(show (w1.drewN nq).cell? _=_ from Al)
     replace Am:=(show (w1.drewN nq).cell? _=_ from Am)
     replace An:=(show (w1.drewN nq).cell? _=_ from An)
     replace Ao:=(show (w1.drewN nq).cell? _=_ from Ao)
     replace Ap:=(show (w1.drewN nq).cell? _=_ from Ap)
     replace alp0:=(show (w1.drewN nq).heap[_]? = _ from alp0)
     obtain ⟨w1,hw2⟩:∃ w2,w1.drewN nq=w2:=⟨_,rfl⟩
     rw [hw2] at hb Aa Ab Ac a1 Ad Ae Af a2 Ah Ai Aj Ag Ak Al Am An Ao Ap alp0 ⊢
     clear hw2
     go_wp2
     first | go_ret | go_ret2 | go_ret3
     exact ⟨rfl,hb⟩
theorem falls_3E  (s0 s1 s2 s3 s4 s5 s6 s7 s8:ByteArray) (hs:s0.size≤24∧s1.size≤24∧s2.size≤24∧s3.size≤24∧s4.size≤24∧s5.size≤24∧s6.size≤24∧s7.size≤24∧s8.size≤24) (u1 u2:ByteArray) (cA:CV 36 #[.agg #[.string s0,.string s1,.string s2],.agg #[.string s3,.string s4]] (.tuple #[.string ⟨#[]⟩,.int .i64 21])) (cN:CV 16 #[.agg #[.string s0,.string s1,.string s2]] (.int .i64 0)) (cD:CV 27 #[.agg #[.string s3,.string s4]] (.int .i64 0)) (cR1:∀ w,EnvV w→Calls Tryz.prog 21 #[.slice (some ⟨w.heap.size,0,none⟩) 1 1] (w.alloc (Obj.cells #[Value.string s5] 22)) (Ret w (.bool true))) (cD2:CV 27 #[.agg #[.string s6,.string s7]] (.int .i64 0)) (cR2:∀ w,EnvV w→Calls Tryz.prog 21 #[.slice (some ⟨w.heap.size,0,none⟩) 1 1] (w.alloc (Obj.cells #[Value.string s8] 22)) (Ret w (.bool true))) (cT:CV 38 #[.agg #[.string s3,.string s4,.string s5],.agg #[.string s6,.string s7,.string s8]] (.tuple #[.agg #[.string ⟨#[]⟩,.string ⟨#[]⟩,.string ⟨#[]⟩],.int .i64 18])) (cM1:CV 23 #[.string s3,.string s7] (.string u1)) (cM2:CV 23 #[.string s4,.string s6] (.string u2)) (cC:CV 31 #[.string u1,.string u2] (.int .i64 0)) (hz:s2.toList=[48]) (w:World) (R:EnvV w) :
   Calls Tryz.prog 9 #[.agg #[.string s0,.string s1,.string s2],.agg #[.string s3,.string s4,.string s5],.agg #[.string s6,.string s7,.string s8]] w (Ret w (.bool true)):=by
 have G_cD:=Lib.hid cD
 have G_cR1:=Lib.hid cR1
 have G_cD2:=Lib.hid cD2
 have G_cR2:=Lib.hid cR2
 have c1:=known15_any
 have c2:∀ w,EnvV w→Calls Tryz.prog 12 #[.slice (some ⟨w.heap.size,0,none⟩) 9 9] (w.alloc (Obj.cells #[Value.string s0,Value.string s1,Value.string s2,Value.string s3,Value.string s4,Value.string s5,Value.string s6,Value.string s7,Value.string s8] 22)) (Ret w (.bool true)):=fun w R=>short9 s0 s1 s2 s3 s4 s5 s6 s7 s8 true ⟨fun _=>hs,fun _=>rfl⟩ (Nat.le_trans hs.1 (by decide)) (Nat.le_trans hs.2.1 (by decide)) (Nat.le_trans hs.2.2.1 (by decide)) (Nat.le_trans hs.2.2.2.1 (by decide)) (Nat.le_trans hs.2.2.2.2.1 (by decide)) (Nat.le_trans hs.2.2.2.2.2.1 (by decide)) (Nat.le_trans hs.2.2.2.2.2.2.1 (by decide)) (Nat.le_trans hs.2.2.2.2.2.2.2.1 (by decide)) (Nat.le_trans hs.2.2.2.2.2.2.2.2 (by decide)) w R
 have c3:=cA
 have c4:=cN
 have c5:=cD
 have c6:=cT
 have c7:=cM1
 have c8:=cM2
 have c9:=cC
 have ez:(s2.toList == [48])=true:=beq_iff_eq.2 hz
 have pz:s2.toList=[48]:=hz
 have C1:=Lib.hid c1
 have C2:=Lib.hid c2
 have C3:=Lib.hid c3
 have C4:=Lib.hid c4
 have C5:=Lib.hid c5
 have C6:=Lib.hid c6
 have C7:=Lib.hid c7
 have C8:=Lib.hid c8
 have C9:=Lib.hid c9
 clear c1 c2 c3 c4 c5 c6 c7 c8 c9 cA cN cD cR1 cD2 cR2 cT cM1 cM2 cC hs hz
 have hb:=Below.refl w.heap.size w
 go_enter Tryz.func9,Tryz.ntmps9
 go_upto_region 1 with fail
 refine wp_alloc3 (fun w1 a0 a1 a2 hk=>?_)
 replace hb:=hb.trans (hk.mono hb.size)
 clear hk
 obtain ⟨Aq,Ar,As⟩:=ce3 a0
 obtain ⟨Aa,Ab,Ac⟩:=ce3 a1
 obtain ⟨Ad,Ae,Af⟩:=ce3 a2
 go_upto_region 14 with (first | ((first | (go_at_call 11;with_reducible refine (chVB hb R C1).mono ?_) | (go_at_call 12;with_reducible refine (zL hb (C2.out _ (R.below hb))).mono ?_) | (go_at_call 36;with_reducible refine (chVB hb R C3).mono ?_) | (go_at_call 16;with_reducible refine (chVB hb R C4).mono ?_) | (go_at_call 27;with_reducible refine (chVB hb R C5).mono ?_));clear hb;rintro e w1 ⟨rfl,hk,hb⟩;clear Aq Ar As Aa Ab Ac Ad Ae Af;replace a0:=zB hk a0;replace a1:=zB hk a1;replace a2:=zB hk a2;obtain ⟨Aq,Ar,As⟩:=ce3 a0;obtain ⟨Aa,Ab,Ac⟩:=ce3 a1;obtain ⟨Ad,Ae,Af⟩:=ce3 a2;clear hk) | (go_at_call 38;with_reducible refine (chVB hb R C6).mono ?_;clear hb;rintro e w1 ⟨rfl,hk,hb⟩;clear Aa Ab Ac Ad Ae Af;replace a1:=zB hk a1;replace a2:=zB hk a2;obtain ⟨Aa,Ab,Ac⟩:=ce3 a1;obtain ⟨Ad,Ae,Af⟩:=ce3 a2;clear hk))
 clear Aq Ar As a0
 refine wp_alloc1 (fun w1 Ag hk=>?_)
 clear Aa Ab Ac Ad Ae Af
 replace a1:=zB hk a1
 replace a2:=zB hk a2
 obtain ⟨Aa,Ab,Ac⟩:=ce3 a1
 obtain ⟨Ad,Ae,Af⟩:=ce3 a2
 replace hb:=hb.trans (hk.mono hb.size)
 clear hk
 obtain ⟨Ah,Ai,Aj⟩:=ce3 Ag
 go_wp2
 refine wp_alloc1 (fun w1 alp0 hk=>?_)
 clear Aa Ab Ac Ad Ae Af Ah Ai Aj
 replace a1:=zB hk a1
 replace a2:=zB hk a2
 replace Ag:=zB hk Ag
 obtain ⟨Aa,Ab,Ac⟩:=ce3 a1
 obtain ⟨Ad,Ae,Af⟩:=ce3 a2
 obtain ⟨Ah,Ai,Aj⟩:=ce3 Ag
 replace hb:=hb.trans (hk.mono hb.size)
 clear hk
 obtain ⟨Ak,Al,Am,An,Ao,Ap⟩:=ce6 alp0
 have HA1:=Lib.hid a1
 have HA2:=Lib.hid a2
 have HAg14_0:=Lib.hid Ag
 have HAlp0:=Lib.hid alp0
 have HB:=Lib.hid hb
 clear hb Aa Ab Ac Ad Ae Af Ah Ai Aj Ak Al Am An Ao Ap a1 a2 Ag alp0
 go_loopw [100,9] (fun i e wr=>((i = .int .i64 0∧e = .int .i64 0)∨(i = .int .i64 1∧e = .int .i64 0)∨(i = .int .i64 2∧e = .int .i64 0))∧Below w1.heap.size w1 wr) (fun i _ _=>2 - (intOf i).toNat)
 case atStart=>exact ⟨Or.inl ⟨rfl,rfl⟩,Below.refl _ _⟩
 case round =>
   obtain ⟨⟨rfl,rfl⟩ | ⟨rfl,rfl⟩ | ⟨rfl,rfl⟩,hw⟩:=hrel
   · have y0:=zC hw (zA HAlp0.out:w1.cell? ⟨_,0,none⟩=some (Value.string s3))
     have y1:=zC hw (zA HAlp0.out:w1.cell? ⟨_,1,none⟩=some (Value.string s4))
     have y2:=zC hw (zA HAlp0.out:w1.cell? ⟨_,2,none⟩=some (Value.string s5))
     go_wp2_with (first | (go_at_call 27;(refine calls_alloc1 (fun w9 a9 hk=>?_));replace hw:=hw.trans (hk.mono hw.size);clear hk;(with_reducible refine (zK hw (G_cD.out _ (R.below (HB.out.trans (hw.mono HB.out.size))))).mono ?_);clear hw;rintro e w8 ⟨rfl,hk,hw⟩;replace a9:=zB hk a9;clear hk;have x9:w8.cell? ⟨_,2,none⟩=some (Value.string s5):=zA a9;clear a9) | (go_at_call 21;(with_reducible refine (zL hw (G_cR1.out _ (R.below (HB.out.trans (hw.mono HB.out.size))))).mono ?_);clear hw;rintro e w7 ⟨rfl,hk,hw⟩;clear hk))
     go_roundw
     case rel=>exact ⟨Or.inr (Or.inl ⟨rfl,rfl⟩),hw⟩
     case measure=>simp [intOf]
   · have y0:=zC hw (zA HAlp0.out:w1.cell? ⟨_,3,none⟩=some (Value.string s6))
     have y1:=zC hw (zA HAlp0.out:w1.cell? ⟨_,4,none⟩=some (Value.string s7))
     have y2:=zC hw (zA HAlp0.out:w1.cell? ⟨_,5,none⟩=some (Value.string s8))
     go_wp2_with (first | (go_at_call 27;(refine calls_alloc1 (fun w9 a9 hk=>?_));replace hw:=hw.trans (hk.mono hw.size);clear hk;(with_reducible refine (zK hw (G_cD2.out _ (R.below (HB.out.trans (hw.mono HB.out.size))))).mono ?_);clear hw;rintro e w8 ⟨rfl,hk,hw⟩;replace a9:=zB hk a9;clear hk;have x9:w8.cell? ⟨_,2,none⟩=some (Value.string s8):=zA a9;clear a9) | (go_at_call 21;(with_reducible refine (zL hw (G_cR2.out _ (R.below (HB.out.trans (hw.mono HB.out.size))))).mono ?_);clear hw;rintro e w7 ⟨rfl,hk,hw⟩;clear hk))
     go_roundw
     case rel=>exact ⟨Or.inr (Or.inr ⟨rfl,rfl⟩),hw⟩
     case measure=>simp [intOf]
   · obtain ⟨w1,ew⟩:∃ w1,w1=wr:=⟨_,rfl⟩
     subst ew
     have hb:=HB.out.trans (hw.mono HB.out.size)
     have a1:=zB hw HA1.out
     obtain ⟨Aa,Ab,Ac⟩:=ce3 a1
     have a2:=zB hw HA2.out
     obtain ⟨Ad,Ae,Af⟩:=ce3 a2
     have Ag:=zB hw HAg14_0.out
     obtain ⟨Ah,Ai,Aj⟩:=ce3 Ag
     have alp0:=zB hw HAlp0.out
     obtain ⟨Ak,Al,Am,An,Ao,Ap⟩:=ce6 alp0
     clear hw
     go_upto_region 23 with fail
     obtain ⟨Aw,Ax,Ay⟩:=cy3 a1
     obtain ⟨Az,A0,A1⟩:=cy3 a2
     obtain ⟨A2,A3,A4⟩:=cy3 Ag
     obtain ⟨A5,A6,A7,A8,A9,Ba⟩:=cy6 alp0
     have At:=rrV C7 R hb
     have Au:=rrV C8 R hb
     have Av:=rrV C9 R hb
     refine wp_region_quiet_below (by first | assumption | kernel_rfl) (by kernel_rfl) ?_
     repeat (quiet_step (first | (with_reducible exact At.out _ _) | (with_reducible exact Au.out _ _) | (with_reducible exact Av.out _ _)))
     refine wpQuiet_nil ?_
     intro w1 hw'
     obtain ⟨hk,hb⟩:=zQ hb hw'
     clear Aa Ab Ac Ad Ae Af Ah Ai Aj Ak Al Am An Ao Ap
     replace a1:=zB hk a1
     replace a2:=zB hk a2
     replace Ag:=zB hk Ag
     replace alp0:=zB hk alp0
     obtain ⟨Aa,Ab,Ac⟩:=ce3 a1
     obtain ⟨Ad,Ae,Af⟩:=ce3 a2
     obtain ⟨Ah,Ai,Aj⟩:=ce3 Ag
     obtain ⟨Ak,Al,Am,An,Ao,Ap⟩:=ce6 alp0
     clear At Au Av Aw Ax Ay Az A0 A1 A2 A3 A4 A5 A6 A7 A8 A9 Ba
     clear hk hw'
     go_wp2
     first | go_ret | go_ret2 | go_ret3
     exact ⟨rfl,hb⟩
theorem falls_3F  (s0 s1 s2 s3 s4 s5 s6 s7 s8:ByteArray) (hs:s0.size≤24∧s1.size≤24∧s2.size≤24∧s3.size≤24∧s4.size≤24∧s5.size≤24∧s6.size≤24∧s7.size≤24∧s8.size≤24) (m0 m1 u1 u2:ByteArray) (c:Int) (cA:CV 36 #[.agg #[.string s0,.string s1,.string s2],.agg #[.string s3,.string s4]] (.tuple #[.string ⟨#[]⟩,.int .i64 21])) (cN:CV 16 #[.agg #[.string s0,.string s1,.string s2]] (.int .i64 0)) (cD:CV 27 #[.agg #[.string s3,.string s4]] (.int .i64 0)) (cR1:∀ w,EnvV w→Calls Tryz.prog 21 #[.slice (some ⟨w.heap.size,0,none⟩) 1 1] (w.alloc (Obj.cells #[Value.string s5] 22)) (Ret w (.bool true))) (cD2:CV 27 #[.agg #[.string s6,.string s7]] (.int .i64 0)) (cR2:∀ w,EnvV w→Calls Tryz.prog 21 #[.slice (some ⟨w.heap.size,0,none⟩) 1 1] (w.alloc (Obj.cells #[Value.string s8] 22)) (Ret w (.bool true))) (cT:CV 38 #[.agg #[.string s3,.string s4,.string s5],.agg #[.string s6,.string s7,.string s8]] (.tuple #[.agg #[.string m0,.string m1,.string ⟨#[49]⟩],.int .i64 0])) (cM1:CV 23 #[.string s3,.string s7] (.string u1)) (cM2:CV 23 #[.string s4,.string s6] (.string u2)) (cC:CV 31 #[.string u1,.string u2] (.int .i64 c)) (cR3:∀ w,EnvV w→Calls Tryz.prog 21 #[.slice (some ⟨w.heap.size,0,none⟩) 2 2] (w.alloc (Obj.cells #[Value.string m0,Value.string m1] 22)) (Ret w (.bool true))) (cF1:CV 37 #[.agg #[.string m0,.string m1,.string ⟨#[49]⟩],.agg #[.string s3,.string s4]] (.string s5)) (cF2:CV 37 #[.agg #[.string m0,.string m1,.string ⟨#[49]⟩],.agg #[.string s6,.string s7]] (.string s8)) (nc:c≠0) (hz:s2.toList=[48]) (w:World) (R:EnvV w) :
   Calls Tryz.prog 9 #[.agg #[.string s0,.string s1,.string s2],.agg #[.string s3,.string s4,.string s5],.agg #[.string s6,.string s7,.string s8]] w (Ret w (.bool true)):=by
 have G_cD:=Lib.hid cD
 have G_cR1:=Lib.hid cR1
 have G_cD2:=Lib.hid cD2
 have G_cR2:=Lib.hid cR2
 have c1:=known15_any
 have c2:∀ w,EnvV w→Calls Tryz.prog 12 #[.slice (some ⟨w.heap.size,0,none⟩) 9 9] (w.alloc (Obj.cells #[Value.string s0,Value.string s1,Value.string s2,Value.string s3,Value.string s4,Value.string s5,Value.string s6,Value.string s7,Value.string s8] 22)) (Ret w (.bool true)):=fun w R=>short9 s0 s1 s2 s3 s4 s5 s6 s7 s8 true ⟨fun _=>hs,fun _=>rfl⟩ (Nat.le_trans hs.1 (by decide)) (Nat.le_trans hs.2.1 (by decide)) (Nat.le_trans hs.2.2.1 (by decide)) (Nat.le_trans hs.2.2.2.1 (by decide)) (Nat.le_trans hs.2.2.2.2.1 (by decide)) (Nat.le_trans hs.2.2.2.2.2.1 (by decide)) (Nat.le_trans hs.2.2.2.2.2.2.1 (by decide)) (Nat.le_trans hs.2.2.2.2.2.2.2.1 (by decide)) (Nat.le_trans hs.2.2.2.2.2.2.2.2 (by decide)) w R
 have c3:=cA
 have c4:=cN
 have c5:=cD
 have c6:=cT
 have c7:=cM1
 have c8:=cM2
 have c9:=cC
 have c10:=cR3
 have c11:=cF1
 have c12:=cF2
 have eqc:(c == 0)=false:=beq_eq_false_iff_ne.2 nc
 have pqc:¬ c=0:=nc
 have ez:(s2.toList == [48])=true:=beq_iff_eq.2 hz
 have pz:s2.toList=[48]:=hz
 have C1:=Lib.hid c1
 have C2:=Lib.hid c2
 have C3:=Lib.hid c3
 have C4:=Lib.hid c4
 have C5:=Lib.hid c5
 have C6:=Lib.hid c6
 have C7:=Lib.hid c7
 have C8:=Lib.hid c8
 have C9:=Lib.hid c9
 have C10:=Lib.hid c10
 have C11:=Lib.hid c11
 have C12:=Lib.hid c12
 clear c1 c2 c3 c4 c5 c6 c7 c8 c9 c10 c11 c12 cA cN cD cR1 cD2 cR2 cT cM1 cM2 cC cR3 cF1 cF2 hs nc hz
 have hb:=Below.refl w.heap.size w
 go_enter Tryz.func9,Tryz.ntmps9
 go_upto_region 1 with fail
 refine wp_alloc3 (fun w1 a0 a1 a2 hk=>?_)
 replace hb:=hb.trans (hk.mono hb.size)
 clear hk
 obtain ⟨A5,A6,A7⟩:=ce3 a0
 obtain ⟨Ab,Ac,Ad⟩:=ce3 a1
 obtain ⟨Ae,Af,Ag⟩:=ce3 a2
 go_upto_region 14 with (first | ((first | (go_at_call 11;with_reducible refine (chVB hb R C1).mono ?_) | (go_at_call 12;with_reducible refine (zL hb (C2.out _ (R.below hb))).mono ?_) | (go_at_call 36;with_reducible refine (chVB hb R C3).mono ?_) | (go_at_call 16;with_reducible refine (chVB hb R C4).mono ?_) | (go_at_call 27;with_reducible refine (chVB hb R C5).mono ?_));clear hb;rintro e w1 ⟨rfl,hk,hb⟩;clear A5 A6 A7 Ab Ac Ad Ae Af Ag;replace a0:=zB hk a0;replace a1:=zB hk a1;replace a2:=zB hk a2;obtain ⟨A5,A6,A7⟩:=ce3 a0;obtain ⟨Ab,Ac,Ad⟩:=ce3 a1;obtain ⟨Ae,Af,Ag⟩:=ce3 a2;clear hk) | (go_at_call 38;with_reducible refine (chVB hb R C6).mono ?_;clear hb;rintro e w1 ⟨rfl,hk,hb⟩;clear Ab Ac Ad Ae Af Ag;replace a1:=zB hk a1;replace a2:=zB hk a2;obtain ⟨Ab,Ac,Ad⟩:=ce3 a1;obtain ⟨Ae,Af,Ag⟩:=ce3 a2;clear hk))
 clear A5 A6 A7 a0
 refine wp_alloc1 (fun w1 Aa hk=>?_)
 clear Ab Ac Ad Ae Af Ag
 replace a1:=zB hk a1
 replace a2:=zB hk a2
 obtain ⟨Ab,Ac,Ad⟩:=ce3 a1
 obtain ⟨Ae,Af,Ag⟩:=ce3 a2
 replace hb:=hb.trans (hk.mono hb.size)
 clear hk
 obtain ⟨Ah,Ai,Aj⟩:=ce3 Aa
 go_wp2
 refine wp_alloc1 (fun w1 alp0 hk=>?_)
 clear Ab Ac Ad Ae Af Ag Ah Ai Aj
 replace a1:=zB hk a1
 replace a2:=zB hk a2
 replace Aa:=zB hk Aa
 obtain ⟨Ab,Ac,Ad⟩:=ce3 a1
 obtain ⟨Ae,Af,Ag⟩:=ce3 a2
 obtain ⟨Ah,Ai,Aj⟩:=ce3 Aa
 replace hb:=hb.trans (hk.mono hb.size)
 clear hk
 obtain ⟨Ak,Al,Am,An,Ao,Ap⟩:=ce6 alp0
 have HA1:=Lib.hid a1
 have HA2:=Lib.hid a2
 have HAg14_0:=Lib.hid Aa
 have HAlp0:=Lib.hid alp0
 have HB:=Lib.hid hb
 clear hb Ab Ac Ad Ae Af Ag Ah Ai Aj Ak Al Am An Ao Ap a1 a2 Aa alp0
 go_loopw [100,9] (fun i e wr=>((i = .int .i64 0∧e = .int .i64 0)∨(i = .int .i64 1∧e = .int .i64 0)∨(i = .int .i64 2∧e = .int .i64 0))∧Below w1.heap.size w1 wr) (fun i _ _=>2 - (intOf i).toNat)
 case atStart=>exact ⟨Or.inl ⟨rfl,rfl⟩,Below.refl _ _⟩
 case round =>
   obtain ⟨⟨rfl,rfl⟩ | ⟨rfl,rfl⟩ | ⟨rfl,rfl⟩,hw⟩:=hrel
   · have y0:=zC hw (zA HAlp0.out:w1.cell? ⟨_,0,none⟩=some (Value.string s3))
     have y1:=zC hw (zA HAlp0.out:w1.cell? ⟨_,1,none⟩=some (Value.string s4))
     have y2:=zC hw (zA HAlp0.out:w1.cell? ⟨_,2,none⟩=some (Value.string s5))
     go_wp2_with (first | (go_at_call 27;(refine calls_alloc1 (fun w9 a9 hk=>?_));replace hw:=hw.trans (hk.mono hw.size);clear hk;(with_reducible refine (zK hw (G_cD.out _ (R.below (HB.out.trans (hw.mono HB.out.size))))).mono ?_);clear hw;rintro e w8 ⟨rfl,hk,hw⟩;replace a9:=zB hk a9;clear hk;have x9:w8.cell? ⟨_,2,none⟩=some (Value.string s5):=zA a9;clear a9) | (go_at_call 21;(with_reducible refine (zL hw (G_cR1.out _ (R.below (HB.out.trans (hw.mono HB.out.size))))).mono ?_);clear hw;rintro e w7 ⟨rfl,hk,hw⟩;clear hk))
     go_roundw
     case rel=>exact ⟨Or.inr (Or.inl ⟨rfl,rfl⟩),hw⟩
     case measure=>simp [intOf]
   · have y0:=zC hw (zA HAlp0.out:w1.cell? ⟨_,3,none⟩=some (Value.string s6))
     have y1:=zC hw (zA HAlp0.out:w1.cell? ⟨_,4,none⟩=some (Value.string s7))
     have y2:=zC hw (zA HAlp0.out:w1.cell? ⟨_,5,none⟩=some (Value.string s8))
     go_wp2_with (first | (go_at_call 27;(refine calls_alloc1 (fun w9 a9 hk=>?_));replace hw:=hw.trans (hk.mono hw.size);clear hk;(with_reducible refine (zK hw (G_cD2.out _ (R.below (HB.out.trans (hw.mono HB.out.size))))).mono ?_);clear hw;rintro e w8 ⟨rfl,hk,hw⟩;replace a9:=zB hk a9;clear hk;have x9:w8.cell? ⟨_,2,none⟩=some (Value.string s8):=zA a9;clear a9) | (go_at_call 21;(with_reducible refine (zL hw (G_cR2.out _ (R.below (HB.out.trans (hw.mono HB.out.size))))).mono ?_);clear hw;rintro e w7 ⟨rfl,hk,hw⟩;clear hk))
     go_roundw
     case rel=>exact ⟨Or.inr (Or.inr ⟨rfl,rfl⟩),hw⟩
     case measure=>simp [intOf]
   · obtain ⟨w1,ew⟩:∃ w1,w1=wr:=⟨_,rfl⟩
     subst ew
     have hb:=HB.out.trans (hw.mono HB.out.size)
     have a1:=zB hw HA1.out
     obtain ⟨Ab,Ac,Ad⟩:=ce3 a1
     have a2:=zB hw HA2.out
     obtain ⟨Ae,Af,Ag⟩:=ce3 a2
     have Aa:=zB hw HAg14_0.out
     obtain ⟨Ah,Ai,Aj⟩:=ce3 Aa
     have alp0:=zB hw HAlp0.out
     obtain ⟨Ak,Al,Am,An,Ao,Ap⟩:=ce6 alp0
     clear hw
     go_upto_region 23 with fail
     obtain ⟨Aq,Ar,As⟩:=cy3 a1
     obtain ⟨At,Au,Av⟩:=cy3 a2
     obtain ⟨Aw,Ax,Ay⟩:=cy3 Aa
     obtain ⟨Az,A0,A1,A2,A3,A4⟩:=cy6 alp0
     have A8:=rrV C7 R hb
     have A9:=rrV C8 R hb
     have Ba:=rrV C9 R hb
     refine wp_region_quiet_below (by first | assumption | kernel_rfl) (by kernel_rfl) ?_
     repeat (quiet_step (first | (with_reducible exact A8.out _ _) | (with_reducible exact A9.out _ _) | (with_reducible exact Ba.out _ _)))
     refine wpQuiet_nil ?_
     intro w1 hw'
     obtain ⟨hk,hb⟩:=zQ hb hw'
     clear Ab Ac Ad Ae Af Ag Ah Ai Aj Ak Al Am An Ao Ap
     replace a1:=zB hk a1
     replace a2:=zB hk a2
     replace Aa:=zB hk Aa
     replace alp0:=zB hk alp0
     obtain ⟨Ab,Ac,Ad⟩:=ce3 a1
     obtain ⟨Ae,Af,Ag⟩:=ce3 a2
     obtain ⟨Ah,Ai,Aj⟩:=ce3 Aa
     obtain ⟨Ak,Al,Am,An,Ao,Ap⟩:=ce6 alp0
     clear A8 A9 Ba Aq Ar As At Au Av Aw Ax Ay Az A0 A1 A2 A3 A4
     clear hk hw'
     go_upto_region 27 with fail
     obtain ⟨Aq,Ar,As⟩:=cy3 a1
     obtain ⟨At,Au,Av⟩:=cy3 a2
     obtain ⟨Aw,Ax,Ay⟩:=cy3 Aa
     obtain ⟨Az,A0,A1,A2,A3,A4⟩:=cy6 alp0
     refine wp_region_mid 7 1 (by first | assumption | kernel_rfl) (by kernel_rfl) ?_
     simp only [List.take_succ_cons,List.take_zero,List.drop_succ_cons,List.drop_zero]
     repeat (quiet_step (first | fail))
     refine wpQuiet_nil ?_
     intro w1 hw'
     obtain ⟨hk,hb⟩:=zQ hb hw'
     clear Ab Ac Ad Ae Af Ag Ah Ai Aj Ak Al Am An Ao Ap
     replace a1:=zB hk a1
     replace a2:=zB hk a2
     replace Aa:=zB hk Aa
     replace alp0:=zB hk alp0
     obtain ⟨Ab,Ac,Ad⟩:=ce3 a1
     obtain ⟨Ae,Af,Ag⟩:=ce3 a2
     obtain ⟨Ah,Ai,Aj⟩:=ce3 Aa
     obtain ⟨Ak,Al,Am,An,Ao,Ap⟩:=ce6 alp0
     clear Aq Ar As At Au Av Aw Ax Ay Az A0 A1 A2 A3 A4
     clear hk hw'
     go_wp2_with (go_at_call 21;with_reducible refine (zL hb (C10.out _ (R.below hb))).mono ?_;clear hb;rintro e w1 ⟨rfl,hk,hb⟩;clear Ab Ac Ad Ae Af Ag Ah Ai Aj Ak Al Am An Ao Ap;replace a1:=zB hk a1;replace a2:=zB hk a2;replace Aa:=zB hk Aa;replace alp0:=zB hk alp0;obtain ⟨Ab,Ac,Ad⟩:=ce3 a1;obtain ⟨Ae,Af,Ag⟩:=ce3 a2;obtain ⟨Ah,Ai,Aj⟩:=ce3 Aa;obtain ⟨Ak,Al,Am,An,Ao,Ap⟩:=ce6 alp0;clear hk)
     obtain ⟨Aq,Ar,As⟩:=cy3 a1
     obtain ⟨At,Au,Av⟩:=cy3 a2
     obtain ⟨Aw,Ax,Ay⟩:=cy3 Aa
     obtain ⟨Az,A0,A1,A2,A3,A4⟩:=cy6 alp0
     have Bb:=rrV C11 R hb
     have Bc:=rrV C12 R hb
     refine ⟨w1,Below.refl _ _,?_⟩
     repeat (quiet_step (first | (with_reducible exact Bb.out _ _) | (with_reducible exact Bc.out _ _)))
     refine wpQuiet_nil ?_
     intro w1 hw'
     obtain ⟨hk,hb⟩:=zQ hb hw'
     clear Ab Ac Ad Ae Af Ag Ah Ai Aj Ak Al Am An Ao Ap
     replace a1:=zB hk a1
     replace a2:=zB hk a2
     replace Aa:=zB hk Aa
     replace alp0:=zB hk alp0
     obtain ⟨Ab,Ac,Ad⟩:=ce3 a1
     obtain ⟨Ae,Af,Ag⟩:=ce3 a2
     obtain ⟨Ah,Ai,Aj⟩:=ce3 Aa
     obtain ⟨Ak,Al,Am,An,Ao,Ap⟩:=ce6 alp0
     clear Bb Bc Aq Ar As At Au Av Aw Ax Ay Az A0 A1 A2 A3 A4
     clear hk hw'
     go_wp2
     first | go_ret | go_ret2 | go_ret3
     exact ⟨rfl,hb⟩
theorem falls_4B  (s0 s1 s2 s3 s4 s5 s6 s7 s8:ByteArray) (hs:s0.size≤24∧s1.size≤24∧s2.size≤24∧s3.size≤24∧s4.size≤24∧s5.size≤24∧s6.size≤24∧s7.size≤24∧s8.size≤24) (x:ByteArray) (cA:CV 36 #[.agg #[.string s0,.string s1,.string s2],.agg #[.string s3,.string s4]] (.tuple #[.string x,.int .i64 0])) (cN:CV 16 #[.agg #[.string s0,.string s1,.string s2]] (.int .i64 0)) (cD:CV 27 #[.agg #[.string s3,.string s4]] (.int .i64 0)) (cR1:∀ w,EnvV w→Calls Tryz.prog 21 #[.slice (some ⟨w.heap.size,0,none⟩) 1 1] (w.alloc (Obj.cells #[Value.string s5] 22)) (Ret w (.bool false))) (cT:CV 38 #[.agg #[.string s3,.string s4,.string s5],.agg #[.string s6,.string s7,.string s8]] (.tuple #[.agg #[.string ⟨#[]⟩,.string ⟨#[]⟩,.string ⟨#[]⟩],.int .i64 2])) (cF:CV 37 #[.agg #[.string s0,.string s1,.string s2],.agg #[.string s3,.string s4]] (.string x)) (hz:¬ s2.toList=[48]) (w:World) (R:EnvV w) :
   Calls Tryz.prog 9 #[.agg #[.string s0,.string s1,.string s2],.agg #[.string s3,.string s4,.string s5],.agg #[.string s6,.string s7,.string s8]] w (Ret w (.bool true)):=by
 have G_cD:=Lib.hid cD
 have G_cR1:=Lib.hid cR1
 have c1:=known15_any
 have c2:∀ w,EnvV w→Calls Tryz.prog 12 #[.slice (some ⟨w.heap.size,0,none⟩) 9 9] (w.alloc (Obj.cells #[Value.string s0,Value.string s1,Value.string s2,Value.string s3,Value.string s4,Value.string s5,Value.string s6,Value.string s7,Value.string s8] 22)) (Ret w (.bool true)):=fun w R=>short9 s0 s1 s2 s3 s4 s5 s6 s7 s8 true ⟨fun _=>hs,fun _=>rfl⟩ (Nat.le_trans hs.1 (by decide)) (Nat.le_trans hs.2.1 (by decide)) (Nat.le_trans hs.2.2.1 (by decide)) (Nat.le_trans hs.2.2.2.1 (by decide)) (Nat.le_trans hs.2.2.2.2.1 (by decide)) (Nat.le_trans hs.2.2.2.2.2.1 (by decide)) (Nat.le_trans hs.2.2.2.2.2.2.1 (by decide)) (Nat.le_trans hs.2.2.2.2.2.2.2.1 (by decide)) (Nat.le_trans hs.2.2.2.2.2.2.2.2 (by decide)) w R
 have c3:=cA
 have c4:=cN
 have c5:=cD
 have c6:=cF
 have c7:=cT
 have ez:(s2.toList == [48])=false:=beq_eq_false_iff_ne.2 hz
 have pz:¬ s2.toList=[48]:=hz
 have C1:=Lib.hid c1
 have C2:=Lib.hid c2
 have C3:=Lib.hid c3
 have C4:=Lib.hid c4
 have C5:=Lib.hid c5
 have C6:=Lib.hid c6
 have C7:=Lib.hid c7
 clear c1 c2 c3 c4 c5 c6 c7 cA cN cD cR1 cT cF hs hz
 have hb:=Below.refl w.heap.size w
 go_enter Tryz.func9,Tryz.ntmps9
 go_upto_region 1 with fail
 refine wp_alloc3 (fun w1 a0 a1 a2 hk=>?_)
 replace hb:=hb.trans (hk.mono hb.size)
 clear hk
 obtain ⟨Aq,Ar,As⟩:=ce3 a0
 obtain ⟨Aa,Ab,Ac⟩:=ce3 a1
 obtain ⟨Ad,Ae,Af⟩:=ce3 a2
 go_upto_region 14 with (first | ((first | (go_at_call 11;with_reducible refine (chVB hb R C1).mono ?_) | (go_at_call 12;with_reducible refine (zL hb (C2.out _ (R.below hb))).mono ?_) | (go_at_call 36;with_reducible refine (chVB hb R C3).mono ?_) | (go_at_call 16;with_reducible refine (chVB hb R C4).mono ?_) | (go_at_call 27;with_reducible refine (chVB hb R C5).mono ?_) | (go_at_call 37;with_reducible refine (chVB hb R C6).mono ?_));clear hb;rintro e w1 ⟨rfl,hk,hb⟩;clear Aq Ar As Aa Ab Ac Ad Ae Af;replace a0:=zB hk a0;replace a1:=zB hk a1;replace a2:=zB hk a2;obtain ⟨Aq,Ar,As⟩:=ce3 a0;obtain ⟨Aa,Ab,Ac⟩:=ce3 a1;obtain ⟨Ad,Ae,Af⟩:=ce3 a2;clear hk) | (go_at_call 38;with_reducible refine (chVB hb R C7).mono ?_;clear hb;rintro e w1 ⟨rfl,hk,hb⟩;clear Aa Ab Ac Ad Ae Af;replace a1:=zB hk a1;replace a2:=zB hk a2;obtain ⟨Aa,Ab,Ac⟩:=ce3 a1;obtain ⟨Ad,Ae,Af⟩:=ce3 a2;clear hk))
 clear Aq Ar As a0
 refine wp_alloc1 (fun w1 Ag hk=>?_)
 clear Aa Ab Ac Ad Ae Af
 replace a1:=zB hk a1
 replace a2:=zB hk a2
 obtain ⟨Aa,Ab,Ac⟩:=ce3 a1
 obtain ⟨Ad,Ae,Af⟩:=ce3 a2
 replace hb:=hb.trans (hk.mono hb.size)
 clear hk
 obtain ⟨Ah,Ai,Aj⟩:=ce3 Ag
 go_wp2
 refine wp_alloc1 (fun w1 alp0 hk=>?_)
 clear Aa Ab Ac Ad Ae Af Ah Ai Aj
 replace a1:=zB hk a1
 replace a2:=zB hk a2
 replace Ag:=zB hk Ag
 obtain ⟨Aa,Ab,Ac⟩:=ce3 a1
 obtain ⟨Ad,Ae,Af⟩:=ce3 a2
 obtain ⟨Ah,Ai,Aj⟩:=ce3 Ag
 replace hb:=hb.trans (hk.mono hb.size)
 clear hk
 obtain ⟨Ak,Al,Am,An,Ao,Ap⟩:=ce6 alp0
 have HA1:=Lib.hid a1
 have HA2:=Lib.hid a2
 have HAg14_0:=Lib.hid Ag
 have HAlp0:=Lib.hid alp0
 have HB:=Lib.hid hb
 clear hb Aa Ab Ac Ad Ae Af Ah Ai Aj Ak Al Am An Ao Ap a1 a2 Ag alp0
 go_loopw [100,9] (fun i e wr=>((i = .int .i64 0∧e = .int .i64 0)∨(i = .int .i64 1∧e = .int .i64 2)∨(i = .int .i64 2∧e = .int .i64 2))∧Below w1.heap.size w1 wr) (fun i _ _=>2 - (intOf i).toNat)
 case atStart=>exact ⟨Or.inl ⟨rfl,rfl⟩,Below.refl _ _⟩
 case round =>
   obtain ⟨⟨rfl,rfl⟩ | ⟨rfl,rfl⟩ | ⟨rfl,rfl⟩,hw⟩:=hrel
   · have y0:=zC hw (zA HAlp0.out:w1.cell? ⟨_,0,none⟩=some (Value.string s3))
     have y1:=zC hw (zA HAlp0.out:w1.cell? ⟨_,1,none⟩=some (Value.string s4))
     have y2:=zC hw (zA HAlp0.out:w1.cell? ⟨_,2,none⟩=some (Value.string s5))
     go_wp2_with (first | (go_at_call 27;(refine calls_alloc1 (fun w9 a9 hk=>?_));replace hw:=hw.trans (hk.mono hw.size);clear hk;(with_reducible refine (zK hw (G_cD.out _ (R.below (HB.out.trans (hw.mono HB.out.size))))).mono ?_);clear hw;rintro e w8 ⟨rfl,hk,hw⟩;replace a9:=zB hk a9;clear hk;have x9:w8.cell? ⟨_,2,none⟩=some (Value.string s5):=zA a9;clear a9) | (go_at_call 21;(with_reducible refine (zL hw (G_cR1.out _ (R.below (HB.out.trans (hw.mono HB.out.size))))).mono ?_);clear hw;rintro e w7 ⟨rfl,hk,hw⟩;clear hk))
     go_roundw
     case rel=>exact ⟨Or.inr (Or.inl ⟨rfl,rfl⟩),hw⟩
     case measure=>simp [intOf]
   · have y0:=zC hw (zA HAlp0.out:w1.cell? ⟨_,3,none⟩=some (Value.string s6))
     have y1:=zC hw (zA HAlp0.out:w1.cell? ⟨_,4,none⟩=some (Value.string s7))
     have y2:=zC hw (zA HAlp0.out:w1.cell? ⟨_,5,none⟩=some (Value.string s8))
     go_wp2
     go_roundw
     case rel=>exact ⟨Or.inr (Or.inr ⟨rfl,rfl⟩),by first | exact hw | exact hw.alloc hw.size _⟩
     case measure=>simp [intOf]
   · obtain ⟨w1,ew⟩:∃ w1,w1=wr:=⟨_,rfl⟩
     subst ew
     have hb:=HB.out.trans (hw.mono HB.out.size)
     have a1:=zB hw HA1.out
     obtain ⟨Aa,Ab,Ac⟩:=ce3 a1
     have a2:=zB hw HA2.out
     obtain ⟨Ad,Ae,Af⟩:=ce3 a2
     have Ag:=zB hw HAg14_0.out
     obtain ⟨Ah,Ai,Aj⟩:=ce3 Ag
     have alp0:=zB hw HAlp0.out
     obtain ⟨Ak,Al,Am,An,Ao,Ap⟩:=ce6 alp0
     clear hw
     go_upto_region 23 with fail
     go_quiet (fail)
     replace hb:=hb.trans ((below_drewN w1 nq).mono hb.size)
     replace Aa:=(show (w1.drewN nq).cell? _=_ from Aa)
     replace Ab:=(show (w1.drewN nq).cell? _=_ from Ab)
     replace Ac:=(show (w1.drewN nq).cell? _=_ from Ac)
     replace a1:=(show (w1.drewN nq).heap[_]? = _ from a1)
     replace Ad:=(show (w1.drewN nq).cell? _=_ from Ad)
     replace Ae:=(show (w1.drewN nq).cell? _=_ from Ae)
     replace Af:=(show (w1.drewN nq).cell? _=_ from Af)
     replace a2:=(show (w1.drewN nq).heap[_]? = _ from a2)
     replace Ah:=(show (w1.drewN nq).cell? _=_ from Ah)
     replace Ai:=(show (w1.drewN nq).cell? _=_ from Ai)
     replace Aj:=(show (w1.drewN nq).cell? _=_ from Aj)
     replace Ag:=(show (w1.drewN nq).heap[_]? = _ from Ag)
     replace Ak:=(show (w1.drewN nq).cell? _=_ from Ak)
     replace Al:=(show (w1.drewN nq).cell? _=_ from Al)
     replace Am:=(show (w1.drewN nq).cell? _=_ from Am)
     replace An:=(show (w1.drewN nq).cell? _=_ from An)
     replace Ao:=(show (w1.drewN nq).cell? _=_ from Ao)
     replace Ap:=(show (w1.drewN nq).cell? _=_ from Ap)
     replace alp0:=(show (w1.drewN nq).heap[_]? = _ from alp0)
     obtain ⟨w1,hw2⟩:∃ w2,w1.drewN nq=w2:=⟨_,rfl⟩
     rw [hw2] at hb Aa Ab Ac a1 Ad Ae Af a2 Ah Ai Aj Ag Ak Al Am An Ao Ap alp0 ⊢
     clear hw2
     go_wp2
     first | go_ret | go_ret2 | go_ret3
     exact ⟨rfl,hb⟩
theorem falls_4C  (s0 s1 s2 s3 s4 s5 s6 s7 s8:ByteArray) (hs:s0.size≤24∧s1.size≤24∧s2.size≤24∧s3.size≤24∧s4.size≤24∧s5.size≤24∧s6.size≤24∧s7.size≤24∧s8.size≤24) (x:ByteArray) (dw:Int) (cA:CV 36 #[.agg #[.string s0,.string s1,.string s2],.agg #[.string s3,.string s4]] (.tuple #[.string x,.int .i64 0])) (cN:CV 16 #[.agg #[.string s0,.string s1,.string s2]] (.int .i64 0)) (cD:CV 27 #[.agg #[.string s3,.string s4]] (.int .i64 0)) (cR1:∀ w,EnvV w→Calls Tryz.prog 21 #[.slice (some ⟨w.heap.size,0,none⟩) 1 1] (w.alloc (Obj.cells #[Value.string s5] 22)) (Ret w (.bool true))) (cD2:CV 27 #[.agg #[.string s6,.string s7]] (.int .i64 dw)) (cT:CV 38 #[.agg #[.string s3,.string s4,.string s5],.agg #[.string s6,.string s7,.string s8]] (.tuple #[.agg #[.string ⟨#[]⟩,.string ⟨#[]⟩,.string ⟨#[]⟩],.int .i64 dw])) (cF:CV 37 #[.agg #[.string s0,.string s1,.string s2],.agg #[.string s3,.string s4]] (.string x)) (ndw:dw≠0) (hz:¬ s2.toList=[48]) (w:World) (R:EnvV w) :
   Calls Tryz.prog 9 #[.agg #[.string s0,.string s1,.string s2],.agg #[.string s3,.string s4,.string s5],.agg #[.string s6,.string s7,.string s8]] w (Ret w (.bool true)):=by
 have G_cD:=Lib.hid cD
 have G_cR1:=Lib.hid cR1
 have G_cD2:=Lib.hid cD2
 have c1:=known15_any
 have c2:∀ w,EnvV w→Calls Tryz.prog 12 #[.slice (some ⟨w.heap.size,0,none⟩) 9 9] (w.alloc (Obj.cells #[Value.string s0,Value.string s1,Value.string s2,Value.string s3,Value.string s4,Value.string s5,Value.string s6,Value.string s7,Value.string s8] 22)) (Ret w (.bool true)):=fun w R=>short9 s0 s1 s2 s3 s4 s5 s6 s7 s8 true ⟨fun _=>hs,fun _=>rfl⟩ (Nat.le_trans hs.1 (by decide)) (Nat.le_trans hs.2.1 (by decide)) (Nat.le_trans hs.2.2.1 (by decide)) (Nat.le_trans hs.2.2.2.1 (by decide)) (Nat.le_trans hs.2.2.2.2.1 (by decide)) (Nat.le_trans hs.2.2.2.2.2.1 (by decide)) (Nat.le_trans hs.2.2.2.2.2.2.1 (by decide)) (Nat.le_trans hs.2.2.2.2.2.2.2.1 (by decide)) (Nat.le_trans hs.2.2.2.2.2.2.2.2 (by decide)) w R
 have c3:=cA
 have c4:=cN
 have c5:=cD
 have c6:=cF
 have c7:=cT
 have eqdw:(dw == 0)=false:=beq_eq_false_iff_ne.2 ndw
 have pqdw:¬ dw=0:=ndw
 have ez:(s2.toList == [48])=false:=beq_eq_false_iff_ne.2 hz
 have pz:¬ s2.toList=[48]:=hz
 have C1:=Lib.hid c1
 have C2:=Lib.hid c2
 have C3:=Lib.hid c3
 have C4:=Lib.hid c4
 have C5:=Lib.hid c5
 have C6:=Lib.hid c6
 have C7:=Lib.hid c7
 clear c1 c2 c3 c4 c5 c6 c7 cA cN cD cR1 cD2 cT cF hs ndw hz
 have hb:=Below.refl w.heap.size w
 go_enter Tryz.func9,Tryz.ntmps9
 go_upto_region 1 with fail
 refine wp_alloc3 (fun w1 a0 a1 a2 hk=>?_)
 replace hb:=hb.trans (hk.mono hb.size)
 clear hk
 obtain ⟨Aq,Ar,As⟩:=ce3 a0
 obtain ⟨Aa,Ab,Ac⟩:=ce3 a1
 obtain ⟨Ad,Ae,Af⟩:=ce3 a2
 go_upto_region 14 with (first | ((first | (go_at_call 11;with_reducible refine (chVB hb R C1).mono ?_) | (go_at_call 12;with_reducible refine (zL hb (C2.out _ (R.below hb))).mono ?_) | (go_at_call 36;with_reducible refine (chVB hb R C3).mono ?_) | (go_at_call 16;with_reducible refine (chVB hb R C4).mono ?_) | (go_at_call 27;with_reducible refine (chVB hb R C5).mono ?_) | (go_at_call 37;with_reducible refine (chVB hb R C6).mono ?_));clear hb;rintro e w1 ⟨rfl,hk,hb⟩;clear Aq Ar As Aa Ab Ac Ad Ae Af;replace a0:=zB hk a0;replace a1:=zB hk a1;replace a2:=zB hk a2;obtain ⟨Aq,Ar,As⟩:=ce3 a0;obtain ⟨Aa,Ab,Ac⟩:=ce3 a1;obtain ⟨Ad,Ae,Af⟩:=ce3 a2;clear hk) | (go_at_call 38;with_reducible refine (chVB hb R C7).mono ?_;clear hb;rintro e w1 ⟨rfl,hk,hb⟩;clear Aa Ab Ac Ad Ae Af;replace a1:=zB hk a1;replace a2:=zB hk a2;obtain ⟨Aa,Ab,Ac⟩:=ce3 a1;obtain ⟨Ad,Ae,Af⟩:=ce3 a2;clear hk))
 clear Aq Ar As a0
 refine wp_alloc1 (fun w1 Ag hk=>?_)
 clear Aa Ab Ac Ad Ae Af
 replace a1:=zB hk a1
 replace a2:=zB hk a2
 obtain ⟨Aa,Ab,Ac⟩:=ce3 a1
 obtain ⟨Ad,Ae,Af⟩:=ce3 a2
 replace hb:=hb.trans (hk.mono hb.size)
 clear hk
 obtain ⟨Ah,Ai,Aj⟩:=ce3 Ag
 go_wp2
 refine wp_alloc1 (fun w1 alp0 hk=>?_)
 clear Aa Ab Ac Ad Ae Af Ah Ai Aj
 replace a1:=zB hk a1
 replace a2:=zB hk a2
 replace Ag:=zB hk Ag
 obtain ⟨Aa,Ab,Ac⟩:=ce3 a1
 obtain ⟨Ad,Ae,Af⟩:=ce3 a2
 obtain ⟨Ah,Ai,Aj⟩:=ce3 Ag
 replace hb:=hb.trans (hk.mono hb.size)
 clear hk
 obtain ⟨Ak,Al,Am,An,Ao,Ap⟩:=ce6 alp0
 have HA1:=Lib.hid a1
 have HA2:=Lib.hid a2
 have HAg14_0:=Lib.hid Ag
 have HAlp0:=Lib.hid alp0
 have HB:=Lib.hid hb
 clear hb Aa Ab Ac Ad Ae Af Ah Ai Aj Ak Al Am An Ao Ap a1 a2 Ag alp0
 go_loopw [100,9] (fun i e wr=>((i = .int .i64 0∧e = .int .i64 0)∨(i = .int .i64 1∧e = .int .i64 0)∨(i = .int .i64 2∧e = .int .i64 dw))∧Below w1.heap.size w1 wr) (fun i _ _=>2 - (intOf i).toNat)
 case atStart=>exact ⟨Or.inl ⟨rfl,rfl⟩,Below.refl _ _⟩
 case round =>
   obtain ⟨⟨rfl,rfl⟩ | ⟨rfl,rfl⟩ | ⟨rfl,rfl⟩,hw⟩:=hrel
   · have y0:=zC hw (zA HAlp0.out:w1.cell? ⟨_,0,none⟩=some (Value.string s3))
     have y1:=zC hw (zA HAlp0.out:w1.cell? ⟨_,1,none⟩=some (Value.string s4))
     have y2:=zC hw (zA HAlp0.out:w1.cell? ⟨_,2,none⟩=some (Value.string s5))
     go_wp2_with (first | (go_at_call 27;(refine calls_alloc1 (fun w9 a9 hk=>?_));replace hw:=hw.trans (hk.mono hw.size);clear hk;(with_reducible refine (zK hw (G_cD.out _ (R.below (HB.out.trans (hw.mono HB.out.size))))).mono ?_);clear hw;rintro e w8 ⟨rfl,hk,hw⟩;replace a9:=zB hk a9;clear hk;have x9:w8.cell? ⟨_,2,none⟩=some (Value.string s5):=zA a9;clear a9) | (go_at_call 21;(with_reducible refine (zL hw (G_cR1.out _ (R.below (HB.out.trans (hw.mono HB.out.size))))).mono ?_);clear hw;rintro e w7 ⟨rfl,hk,hw⟩;clear hk))
     go_roundw
     case rel=>exact ⟨Or.inr (Or.inl ⟨rfl,rfl⟩),hw⟩
     case measure=>simp [intOf]
   · have y0:=zC hw (zA HAlp0.out:w1.cell? ⟨_,3,none⟩=some (Value.string s6))
     have y1:=zC hw (zA HAlp0.out:w1.cell? ⟨_,4,none⟩=some (Value.string s7))
     have y2:=zC hw (zA HAlp0.out:w1.cell? ⟨_,5,none⟩=some (Value.string s8))
     go_wp2_with (go_at_call 27;(refine calls_alloc1 (fun w9 a9 hk=>?_));replace hw:=hw.trans (hk.mono hw.size);clear hk;(with_reducible refine (zK hw (G_cD2.out _ (R.below (HB.out.trans (hw.mono HB.out.size))))).mono ?_);clear hw;rintro e w8 ⟨rfl,hk,hw⟩;replace a9:=zB hk a9;clear hk;have x9:w8.cell? ⟨_,2,none⟩=some (Value.string s8):=zA a9;clear a9)
     go_roundw
     case rel=>exact ⟨Or.inr (Or.inr ⟨rfl,rfl⟩),hw⟩
     case measure=>simp [intOf]
   · obtain ⟨w1,ew⟩:∃ w1,w1=wr:=⟨_,rfl⟩
     subst ew
     have hb:=HB.out.trans (hw.mono HB.out.size)
     have a1:=zB hw HA1.out
     obtain ⟨Aa,Ab,Ac⟩:=ce3 a1
     have a2:=zB hw HA2.out
     obtain ⟨Ad,Ae,Af⟩:=ce3 a2
     have Ag:=zB hw HAg14_0.out
     obtain ⟨Ah,Ai,Aj⟩:=ce3 Ag
     have alp0:=zB hw HAlp0.out
     obtain ⟨Ak,Al,Am,An,Ao,Ap⟩:=ce6 alp0
     clear hw
     go_upto_region 23 with fail
     go_quiet (fail)
     replace hb:=hb.trans ((below_drewN w1 nq).mono hb.size)
     replace Aa:=(show (w1.drewN nq).cell? _=_ from Aa)
     replace Ab:=(show (w1.drewN nq).cell? _=_ from Ab)
     replace Ac:=(show (w1.drewN nq).cell? _=_ from Ac)
     replace a1:=(show (w1.drewN nq).heap[_]? = _ from a1)
     replace Ad:=(show (w1.drewN nq).cell? _=_ from Ad)
     replace Ae:=(show (w1.drewN nq).cell? _=_ from Ae)
     replace Af:=(show (w1.drewN nq).cell? _=_ from Af)
     replace a2:=(show (w1.drewN nq).heap[_]? = _ from a2)
     replace Ah:=(show (w1.drewN nq).cell? _=_ from Ah)
     replace Ai:=(show (w1.drewN nq).cell? _=_ from Ai)
     replace Aj:=(show (w1.drewN nq).cell? _=_ from Aj)
     replace Ag:=(show (w1.drewN nq).heap[_]? = _ from Ag)
     replace Ak:=(show (w1.drewN nq).cell? _=_ from Ak)
     replace Al:=(show (w1.drewN nq).cell? _=_ from Al)
     replace Am:=(show (w1.drewN nq).cell? _=_ from Am)
     replace An:=(show (w1.drewN nq).cell? _=_ from An)
     replace Ao:=(show (w1.drewN nq).cell? _=_ from Ao)
     replace Ap:=(show (w1.drewN nq).cell? _=_ from Ap)
     replace alp0:=(show (w1.drewN nq).heap[_]? = _ from alp0)
     obtain ⟨w1,hw2⟩:∃ w2,w1.drewN nq=w2:=⟨_,rfl⟩
     rw [hw2] at hb Aa Ab Ac a1 Ad Ae Af a2 Ah Ai Aj Ag Ak Al Am An Ao Ap alp0 ⊢
     clear hw2
     go_wp2
     first | go_ret | go_ret2 | go_ret3
     exact ⟨rfl,hb⟩
theorem falls_4D  (s0 s1 s2 s3 s4 s5 s6 s7 s8:ByteArray) (hs:s0.size≤24∧s1.size≤24∧s2.size≤24∧s3.size≤24∧s4.size≤24∧s5.size≤24∧s6.size≤24∧s7.size≤24∧s8.size≤24) (x:ByteArray) (cA:CV 36 #[.agg #[.string s0,.string s1,.string s2],.agg #[.string s3,.string s4]] (.tuple #[.string x,.int .i64 0])) (cN:CV 16 #[.agg #[.string s0,.string s1,.string s2]] (.int .i64 0)) (cD:CV 27 #[.agg #[.string s3,.string s4]] (.int .i64 0)) (cR1:∀ w,EnvV w→Calls Tryz.prog 21 #[.slice (some ⟨w.heap.size,0,none⟩) 1 1] (w.alloc (Obj.cells #[Value.string s5] 22)) (Ret w (.bool true))) (cD2:CV 27 #[.agg #[.string s6,.string s7]] (.int .i64 0)) (cR2:∀ w,EnvV w→Calls Tryz.prog 21 #[.slice (some ⟨w.heap.size,0,none⟩) 1 1] (w.alloc (Obj.cells #[Value.string s8] 22)) (Ret w (.bool false))) (cT:CV 38 #[.agg #[.string s3,.string s4,.string s5],.agg #[.string s6,.string s7,.string s8]] (.tuple #[.agg #[.string ⟨#[]⟩,.string ⟨#[]⟩,.string ⟨#[]⟩],.int .i64 2])) (cF:CV 37 #[.agg #[.string s0,.string s1,.string s2],.agg #[.string s3,.string s4]] (.string x)) (hz:¬ s2.toList=[48]) (w:World) (R:EnvV w) :
   Calls Tryz.prog 9 #[.agg #[.string s0,.string s1,.string s2],.agg #[.string s3,.string s4,.string s5],.agg #[.string s6,.string s7,.string s8]] w (Ret w (.bool true)):=by
 have G_cD:=Lib.hid cD
 have G_cR1:=Lib.hid cR1
 have G_cD2:=Lib.hid cD2
 have G_cR2:=Lib.hid cR2
 have c1:=known15_any
 have c2:∀ w,EnvV w→Calls Tryz.prog 12 #[.slice (some ⟨w.heap.size,0,none⟩) 9 9] (w.alloc (Obj.cells #[Value.string s0,Value.string s1,Value.string s2,Value.string s3,Value.string s4,Value.string s5,Value.string s6,Value.string s7,Value.string s8] 22)) (Ret w (.bool true)):=fun w R=>short9 s0 s1 s2 s3 s4 s5 s6 s7 s8 true ⟨fun _=>hs,fun _=>rfl⟩ (Nat.le_trans hs.1 (by decide)) (Nat.le_trans hs.2.1 (by decide)) (Nat.le_trans hs.2.2.1 (by decide)) (Nat.le_trans hs.2.2.2.1 (by decide)) (Nat.le_trans hs.2.2.2.2.1 (by decide)) (Nat.le_trans hs.2.2.2.2.2.1 (by decide)) (Nat.le_trans hs.2.2.2.2.2.2.1 (by decide)) (Nat.le_trans hs.2.2.2.2.2.2.2.1 (by decide)) (Nat.le_trans hs.2.2.2.2.2.2.2.2 (by decide)) w R
 have c3:=cA
 have c4:=cN
 have c5:=cD
 have c6:=cF
 have c7:=cT
 have ez:(s2.toList == [48])=false:=beq_eq_false_iff_ne.2 hz
 have pz:¬ s2.toList=[48]:=hz
 have C1:=Lib.hid c1
 have C2:=Lib.hid c2
 have C3:=Lib.hid c3
 have C4:=Lib.hid c4
 have C5:=Lib.hid c5
 have C6:=Lib.hid c6
 have C7:=Lib.hid c7
 clear c1 c2 c3 c4 c5 c6 c7 cA cN cD cR1 cD2 cR2 cT cF hs hz
 have hb:=Below.refl w.heap.size w
 go_enter Tryz.func9,Tryz.ntmps9
 go_upto_region 1 with fail
 refine wp_alloc3 (fun w1 a0 a1 a2 hk=>?_)
 replace hb:=hb.trans (hk.mono hb.size)
 clear hk
 obtain ⟨Aq,Ar,As⟩:=ce3 a0
 obtain ⟨Aa,Ab,Ac⟩:=ce3 a1
 obtain ⟨Ad,Ae,Af⟩:=ce3 a2
 go_upto_region 14 with (first | ((first | (go_at_call 11;with_reducible refine (chVB hb R C1).mono ?_) | (go_at_call 12;with_reducible refine (zL hb (C2.out _ (R.below hb))).mono ?_) | (go_at_call 36;with_reducible refine (chVB hb R C3).mono ?_) | (go_at_call 16;with_reducible refine (chVB hb R C4).mono ?_) | (go_at_call 27;with_reducible refine (chVB hb R C5).mono ?_) | (go_at_call 37;with_reducible refine (chVB hb R C6).mono ?_));clear hb;rintro e w1 ⟨rfl,hk,hb⟩;clear Aq Ar As Aa Ab Ac Ad Ae Af;replace a0:=zB hk a0;replace a1:=zB hk a1;replace a2:=zB hk a2;obtain ⟨Aq,Ar,As⟩:=ce3 a0;obtain ⟨Aa,Ab,Ac⟩:=ce3 a1;obtain ⟨Ad,Ae,Af⟩:=ce3 a2;clear hk) | (go_at_call 38;with_reducible refine (chVB hb R C7).mono ?_;clear hb;rintro e w1 ⟨rfl,hk,hb⟩;clear Aa Ab Ac Ad Ae Af;replace a1:=zB hk a1;replace a2:=zB hk a2;obtain ⟨Aa,Ab,Ac⟩:=ce3 a1;obtain ⟨Ad,Ae,Af⟩:=ce3 a2;clear hk))
 clear Aq Ar As a0
 refine wp_alloc1 (fun w1 Ag hk=>?_)
 clear Aa Ab Ac Ad Ae Af
 replace a1:=zB hk a1
 replace a2:=zB hk a2
 obtain ⟨Aa,Ab,Ac⟩:=ce3 a1
 obtain ⟨Ad,Ae,Af⟩:=ce3 a2
 replace hb:=hb.trans (hk.mono hb.size)
 clear hk
 obtain ⟨Ah,Ai,Aj⟩:=ce3 Ag
 go_wp2
 refine wp_alloc1 (fun w1 alp0 hk=>?_)
 clear Aa Ab Ac Ad Ae Af Ah Ai Aj
 replace a1:=zB hk a1
 replace a2:=zB hk a2
 replace Ag:=zB hk Ag
 obtain ⟨Aa,Ab,Ac⟩:=ce3 a1
 obtain ⟨Ad,Ae,Af⟩:=ce3 a2
 obtain ⟨Ah,Ai,Aj⟩:=ce3 Ag
 replace hb:=hb.trans (hk.mono hb.size)
 clear hk
 obtain ⟨Ak,Al,Am,An,Ao,Ap⟩:=ce6 alp0
 have HA1:=Lib.hid a1
 have HA2:=Lib.hid a2
 have HAg14_0:=Lib.hid Ag
 have HAlp0:=Lib.hid alp0
 have HB:=Lib.hid hb
 clear hb Aa Ab Ac Ad Ae Af Ah Ai Aj Ak Al Am An Ao Ap a1 a2 Ag alp0
 go_loopw [100,9] (fun i e wr=>((i = .int .i64 0∧e = .int .i64 0)∨(i = .int .i64 1∧e = .int .i64 0)∨(i = .int .i64 2∧e = .int .i64 2))∧Below w1.heap.size w1 wr) (fun i _ _=>2 - (intOf i).toNat)
 case atStart=>exact ⟨Or.inl ⟨rfl,rfl⟩,Below.refl _ _⟩
 case round =>
   obtain ⟨⟨rfl,rfl⟩ | ⟨rfl,rfl⟩ | ⟨rfl,rfl⟩,hw⟩:=hrel
   · have y0:=zC hw (zA HAlp0.out:w1.cell? ⟨_,0,none⟩=some (Value.string s3))
     have y1:=zC hw (zA HAlp0.out:w1.cell? ⟨_,1,none⟩=some (Value.string s4))
     have y2:=zC hw (zA HAlp0.out:w1.cell? ⟨_,2,none⟩=some (Value.string s5))
     go_wp2_with (first | (go_at_call 27;(refine calls_alloc1 (fun w9 a9 hk=>?_));replace hw:=hw.trans (hk.mono hw.size);clear hk;(with_reducible refine (zK hw (G_cD.out _ (R.below (HB.out.trans (hw.mono HB.out.size))))).mono ?_);clear hw;rintro e w8 ⟨rfl,hk,hw⟩;replace a9:=zB hk a9;clear hk;have x9:w8.cell? ⟨_,2,none⟩=some (Value.string s5):=zA a9;clear a9) | (go_at_call 21;(with_reducible refine (zL hw (G_cR1.out _ (R.below (HB.out.trans (hw.mono HB.out.size))))).mono ?_);clear hw;rintro e w7 ⟨rfl,hk,hw⟩;clear hk))
     go_roundw
     case rel=>exact ⟨Or.inr (Or.inl ⟨rfl,rfl⟩),hw⟩
     case measure=>simp [intOf]
   · have y0:=zC hw (zA HAlp0.out:w1.cell? ⟨_,3,none⟩=some (Value.string s6))
     have y1:=zC hw (zA HAlp0.out:w1.cell? ⟨_,4,none⟩=some (Value.string s7))
     have y2:=zC hw (zA HAlp0.out:w1.cell? ⟨_,5,none⟩=some (Value.string s8))
     go_wp2_with (first | (go_at_call 27;(refine calls_alloc1 (fun w9 a9 hk=>?_));replace hw:=hw.trans (hk.mono hw.size);clear hk;(with_reducible refine (zK hw (G_cD2.out _ (R.below (HB.out.trans (hw.mono HB.out.size))))).mono ?_);clear hw;rintro e w8 ⟨rfl,hk,hw⟩;replace a9:=zB hk a9;clear hk;have x9:w8.cell? ⟨_,2,none⟩=some (Value.string s8):=zA a9;clear a9) | (go_at_call 21;(with_reducible refine (zL hw (G_cR2.out _ (R.below (HB.out.trans (hw.mono HB.out.size))))).mono ?_);clear hw;rintro e w7 ⟨rfl,hk,hw⟩;clear hk))
     go_roundw
     case rel=>exact ⟨Or.inr (Or.inr ⟨rfl,rfl⟩),hw⟩
     case measure=>simp [intOf]
   · obtain ⟨w1,ew⟩:∃ w1,w1=wr:=⟨_,rfl⟩
     subst ew
     have hb:=HB.out.trans (hw.mono HB.out.size)
     have a1:=zB hw HA1.out
     obtain ⟨Aa,Ab,Ac⟩:=ce3 a1
     have a2:=zB hw HA2.out
     obtain ⟨Ad,Ae,Af⟩:=ce3 a2
     have Ag:=zB hw HAg14_0.out
     obtain ⟨Ah,Ai,Aj⟩:=ce3 Ag
     have alp0:=zB hw HAlp0.out
     obtain ⟨Ak,Al,Am,An,Ao,Ap⟩:=ce6 alp0
     clear hw
     go_upto_region 23 with fail
     go_quiet (fail)
     replace hb:=hb.trans ((below_drewN w1 nq).mono hb.size)
     replace Aa:=(show (w1.drewN nq).cell? _=_ from Aa)
     replace Ab:=(show (w1.drewN nq).cell? _=_ from Ab)
     replace Ac:=(show (w1.drewN nq).cell? _=_ from Ac)
     replace a1:=(show (w1.drewN nq).heap[_]? = _ from a1)
     replace Ad:=(show (w1.drewN nq).cell? _=_ from Ad)
     replace Ae:=(show (w1.drewN nq).cell? _=_ from Ae)
     replace Af:=(show (w1.drewN nq).cell? _=_ from Af)
     replace a2:=(show (w1.drewN nq).heap[_]? = _ from a2)
     replace Ah:=(show (w1.drewN nq).cell? _=_ from Ah)
     replace Ai:=(show (w1.drewN nq).cell? _=_ from Ai)
     replace Aj:=(show (w1.drewN nq).cell? _=_ from Aj)
     replace Ag:=(show (w1.drewN nq).heap[_]? = _ from Ag)
     replace Ak:=(show (w1.drewN nq).cell? _=_ from Ak)
     replace Al:=(show (w1.drewN nq).cell? _=_ from Al)
     replace Am:=(show (w1.drewN nq).cell? _=_ from Am)
     replace An:=(show (w1.drewN nq).cell? _=_ from An)
     replace Ao:=(show (w1.drewN nq).cell? _=_ from Ao)
     replace Ap:=(show (w1.drewN nq).cell? _=_ from Ap)
     replace alp0:=(show (w1.drewN nq).heap[_]? = _ from alp0)
     obtain ⟨w1,hw2⟩:∃ w2,w1.drewN nq=w2:=⟨_,rfl⟩
     rw [hw2] at hb Aa Ab Ac a1 Ad Ae Af a2 Ah Ai Aj Ag Ak Al Am An Ao Ap alp0 ⊢
     clear hw2
     go_wp2
     first | go_ret | go_ret2 | go_ret3
     exact ⟨rfl,hb⟩
theorem falls_4E  (s0 s1 s2 s3 s4 s5 s6 s7 s8:ByteArray) (hs:s0.size≤24∧s1.size≤24∧s2.size≤24∧s3.size≤24∧s4.size≤24∧s5.size≤24∧s6.size≤24∧s7.size≤24∧s8.size≤24) (x u1 u2:ByteArray) (cA:CV 36 #[.agg #[.string s0,.string s1,.string s2],.agg #[.string s3,.string s4]] (.tuple #[.string x,.int .i64 0])) (cN:CV 16 #[.agg #[.string s0,.string s1,.string s2]] (.int .i64 0)) (cD:CV 27 #[.agg #[.string s3,.string s4]] (.int .i64 0)) (cR1:∀ w,EnvV w→Calls Tryz.prog 21 #[.slice (some ⟨w.heap.size,0,none⟩) 1 1] (w.alloc (Obj.cells #[Value.string s5] 22)) (Ret w (.bool true))) (cD2:CV 27 #[.agg #[.string s6,.string s7]] (.int .i64 0)) (cR2:∀ w,EnvV w→Calls Tryz.prog 21 #[.slice (some ⟨w.heap.size,0,none⟩) 1 1] (w.alloc (Obj.cells #[Value.string s8] 22)) (Ret w (.bool true))) (cT:CV 38 #[.agg #[.string s3,.string s4,.string s5],.agg #[.string s6,.string s7,.string s8]] (.tuple #[.agg #[.string ⟨#[]⟩,.string ⟨#[]⟩,.string ⟨#[]⟩],.int .i64 18])) (cM1:CV 23 #[.string s3,.string s7] (.string u1)) (cM2:CV 23 #[.string s4,.string s6] (.string u2)) (cC:CV 31 #[.string u1,.string u2] (.int .i64 0)) (cF:CV 37 #[.agg #[.string s0,.string s1,.string s2],.agg #[.string s3,.string s4]] (.string x)) (hz:¬ s2.toList=[48]) (w:World) (R:EnvV w) :
   Calls Tryz.prog 9 #[.agg #[.string s0,.string s1,.string s2],.agg #[.string s3,.string s4,.string s5],.agg #[.string s6,.string s7,.string s8]] w (Ret w (.bool true)):=by
 have G_cD:=Lib.hid cD
 have G_cR1:=Lib.hid cR1
 have G_cD2:=Lib.hid cD2
 have G_cR2:=Lib.hid cR2
 have c1:=known15_any
 have c2:∀ w,EnvV w→Calls Tryz.prog 12 #[.slice (some ⟨w.heap.size,0,none⟩) 9 9] (w.alloc (Obj.cells #[Value.string s0,Value.string s1,Value.string s2,Value.string s3,Value.string s4,Value.string s5,Value.string s6,Value.string s7,Value.string s8] 22)) (Ret w (.bool true)):=fun w R=>short9 s0 s1 s2 s3 s4 s5 s6 s7 s8 true ⟨fun _=>hs,fun _=>rfl⟩ (Nat.le_trans hs.1 (by decide)) (Nat.le_trans hs.2.1 (by decide)) (Nat.le_trans hs.2.2.1 (by decide)) (Nat.le_trans hs.2.2.2.1 (by decide)) (Nat.le_trans hs.2.2.2.2.1 (by decide)) (Nat.le_trans hs.2.2.2.2.2.1 (by decide)) (Nat.le_trans hs.2.2.2.2.2.2.1 (by decide)) (Nat.le_trans hs.2.2.2.2.2.2.2.1 (by decide)) (Nat.le_trans hs.2.2.2.2.2.2.2.2 (by decide)) w R
 have c3:=cA
 have c4:=cN
 have c5:=cD
 have c6:=cF
 have c7:=cT
 have c8:=cM1
 have c9:=cM2
 have c10:=cC
 have ez:(s2.toList == [48])=false:=beq_eq_false_iff_ne.2 hz
 have pz:¬ s2.toList=[48]:=hz
 have C1:=Lib.hid c1
 have C2:=Lib.hid c2
 have C3:=Lib.hid c3
 have C4:=Lib.hid c4
 have C5:=Lib.hid c5
 have C6:=Lib.hid c6
 have C7:=Lib.hid c7
 have C8:=Lib.hid c8
 have C9:=Lib.hid c9
 have C10:=Lib.hid c10
 clear c1 c2 c3 c4 c5 c6 c7 c8 c9 c10 cA cN cD cR1 cD2 cR2 cT cM1 cM2 cC cF hs hz
 have hb:=Below.refl w.heap.size w
 go_enter Tryz.func9,Tryz.ntmps9
 go_upto_region 1 with fail
 refine wp_alloc3 (fun w1 a0 a1 a2 hk=>?_)
 replace hb:=hb.trans (hk.mono hb.size)
 clear hk
 obtain ⟨Aq,Ar,As⟩:=ce3 a0
 obtain ⟨Aa,Ab,Ac⟩:=ce3 a1
 obtain ⟨Ad,Ae,Af⟩:=ce3 a2
 go_upto_region 14 with (first | ((first | (go_at_call 11;with_reducible refine (chVB hb R C1).mono ?_) | (go_at_call 12;with_reducible refine (zL hb (C2.out _ (R.below hb))).mono ?_) | (go_at_call 36;with_reducible refine (chVB hb R C3).mono ?_) | (go_at_call 16;with_reducible refine (chVB hb R C4).mono ?_) | (go_at_call 27;with_reducible refine (chVB hb R C5).mono ?_) | (go_at_call 37;with_reducible refine (chVB hb R C6).mono ?_));clear hb;rintro e w1 ⟨rfl,hk,hb⟩;clear Aq Ar As Aa Ab Ac Ad Ae Af;replace a0:=zB hk a0;replace a1:=zB hk a1;replace a2:=zB hk a2;obtain ⟨Aq,Ar,As⟩:=ce3 a0;obtain ⟨Aa,Ab,Ac⟩:=ce3 a1;obtain ⟨Ad,Ae,Af⟩:=ce3 a2;clear hk) | (go_at_call 38;with_reducible refine (chVB hb R C7).mono ?_;clear hb;rintro e w1 ⟨rfl,hk,hb⟩;clear Aa Ab Ac Ad Ae Af;replace a1:=zB hk a1;replace a2:=zB hk a2;obtain ⟨Aa,Ab,Ac⟩:=ce3 a1;obtain ⟨Ad,Ae,Af⟩:=ce3 a2;clear hk))
 clear Aq Ar As a0
 refine wp_alloc1 (fun w1 Ag hk=>?_)
 clear Aa Ab Ac Ad Ae Af
 replace a1:=zB hk a1
 replace a2:=zB hk a2
 obtain ⟨Aa,Ab,Ac⟩:=ce3 a1
 obtain ⟨Ad,Ae,Af⟩:=ce3 a2
 replace hb:=hb.trans (hk.mono hb.size)
 clear hk
 obtain ⟨Ah,Ai,Aj⟩:=ce3 Ag
 go_wp2
 refine wp_alloc1 (fun w1 alp0 hk=>?_)
 clear Aa Ab Ac Ad Ae Af Ah Ai Aj
 replace a1:=zB hk a1
 replace a2:=zB hk a2
 replace Ag:=zB hk Ag
 obtain ⟨Aa,Ab,Ac⟩:=ce3 a1
 obtain ⟨Ad,Ae,Af⟩:=ce3 a2
 obtain ⟨Ah,Ai,Aj⟩:=ce3 Ag
 replace hb:=hb.trans (hk.mono hb.size)
 clear hk
 obtain ⟨Ak,Al,Am,An,Ao,Ap⟩:=ce6 alp0
 have HA1:=Lib.hid a1
 have HA2:=Lib.hid a2
 have HAg14_0:=Lib.hid Ag
 have HAlp0:=Lib.hid alp0
 have HB:=Lib.hid hb
 clear hb Aa Ab Ac Ad Ae Af Ah Ai Aj Ak Al Am An Ao Ap a1 a2 Ag alp0
 go_loopw [100,9] (fun i e wr=>((i = .int .i64 0∧e = .int .i64 0)∨(i = .int .i64 1∧e = .int .i64 0)∨(i = .int .i64 2∧e = .int .i64 0))∧Below w1.heap.size w1 wr) (fun i _ _=>2 - (intOf i).toNat)
 case atStart=>exact ⟨Or.inl ⟨rfl,rfl⟩,Below.refl _ _⟩
 case round =>
   obtain ⟨⟨rfl,rfl⟩ | ⟨rfl,rfl⟩ | ⟨rfl,rfl⟩,hw⟩:=hrel
   · have y0:=zC hw (zA HAlp0.out:w1.cell? ⟨_,0,none⟩=some (Value.string s3))
     have y1:=zC hw (zA HAlp0.out:w1.cell? ⟨_,1,none⟩=some (Value.string s4))
     have y2:=zC hw (zA HAlp0.out:w1.cell? ⟨_,2,none⟩=some (Value.string s5))
     go_wp2_with (first | (go_at_call 27;(refine calls_alloc1 (fun w9 a9 hk=>?_));replace hw:=hw.trans (hk.mono hw.size);clear hk;(with_reducible refine (zK hw (G_cD.out _ (R.below (HB.out.trans (hw.mono HB.out.size))))).mono ?_);clear hw;rintro e w8 ⟨rfl,hk,hw⟩;replace a9:=zB hk a9;clear hk;have x9:w8.cell? ⟨_,2,none⟩=some (Value.string s5):=zA a9;clear a9) | (go_at_call 21;(with_reducible refine (zL hw (G_cR1.out _ (R.below (HB.out.trans (hw.mono HB.out.size))))).mono ?_);clear hw;rintro e w7 ⟨rfl,hk,hw⟩;clear hk))
     go_roundw
     case rel=>exact ⟨Or.inr (Or.inl ⟨rfl,rfl⟩),hw⟩
     case measure=>simp [intOf]
   · have y0:=zC hw (zA HAlp0.out:w1.cell? ⟨_,3,none⟩=some (Value.string s6))
     have y1:=zC hw (zA HAlp0.out:w1.cell? ⟨_,4,none⟩=some (Value.string s7))
     have y2:=zC hw (zA HAlp0.out:w1.cell? ⟨_,5,none⟩=some (Value.string s8))
     go_wp2_with (first | (go_at_call 27;(refine calls_alloc1 (fun w9 a9 hk=>?_));replace hw:=hw.trans (hk.mono hw.size);clear hk;(with_reducible refine (zK hw (G_cD2.out _ (R.below (HB.out.trans (hw.mono HB.out.size))))).mono ?_);clear hw;rintro e w8 ⟨rfl,hk,hw⟩;replace a9:=zB hk a9;clear hk;have x9:w8.cell? ⟨_,2,none⟩=some (Value.string s8):=zA a9;clear a9) | (go_at_call 21;(with_reducible refine (zL hw (G_cR2.out _ (R.below (HB.out.trans (hw.mono HB.out.size))))).mono ?_);clear hw;rintro e w7 ⟨rfl,hk,hw⟩;clear hk))
     go_roundw
     case rel=>exact ⟨Or.inr (Or.inr ⟨rfl,rfl⟩),hw⟩
     case measure=>simp [intOf]
   · obtain ⟨w1,ew⟩:∃ w1,w1=wr:=⟨_,rfl⟩
     subst ew
     have hb:=HB.out.trans (hw.mono HB.out.size)
     have a1:=zB hw HA1.out
     obtain ⟨Aa,Ab,Ac⟩:=ce3 a1
     have a2:=zB hw HA2.out
     obtain ⟨Ad,Ae,Af⟩:=ce3 a2
     have Ag:=zB hw HAg14_0.out
     obtain ⟨Ah,Ai,Aj⟩:=ce3 Ag
     have alp0:=zB hw HAlp0.out
     obtain ⟨Ak,Al,Am,An,Ao,Ap⟩:=ce6 alp0
     clear hw
     go_upto_region 23 with fail
     obtain ⟨Aw,Ax,Ay⟩:=cy3 a1
     obtain ⟨Az,A0,A1⟩:=cy3 a2
     obtain ⟨A2,A3,A4⟩:=cy3 Ag
     obtain ⟨A5,A6,A7,A8,A9,Ba⟩:=cy6 alp0
     have At:=rrV C8 R hb
     have Au:=rrV C9 R hb
     have Av:=rrV C10 R hb
     refine wp_region_quiet_below (by first | assumption | kernel_rfl) (by kernel_rfl) ?_
     repeat (quiet_step (first | (with_reducible exact At.out _ _) | (with_reducible exact Au.out _ _) | (with_reducible exact Av.out _ _)))
     refine wpQuiet_nil ?_
     intro w1 hw'
     obtain ⟨hk,hb⟩:=zQ hb hw'
     clear Aa Ab Ac Ad Ae Af Ah Ai Aj Ak Al Am An Ao Ap
     replace a1:=zB hk a1
     replace a2:=zB hk a2
     replace Ag:=zB hk Ag
     replace alp0:=zB hk alp0
     obtain ⟨Aa,Ab,Ac⟩:=ce3 a1
     obtain ⟨Ad,Ae,Af⟩:=ce3 a2
     obtain ⟨Ah,Ai,Aj⟩:=ce3 Ag
     obtain ⟨Ak,Al,Am,An,Ao,Ap⟩:=ce6 alp0
     clear At Au Av Aw Ax Ay Az A0 A1 A2 A3 A4 A5 A6 A7 A8 A9 Ba
     clear hk hw'
     go_wp2
     first | go_ret | go_ret2 | go_ret3
     exact ⟨rfl,hb⟩
theorem falls_4F  (s0 s1 s2 s3 s4 s5 s6 s7 s8:ByteArray) (hs:s0.size≤24∧s1.size≤24∧s2.size≤24∧s3.size≤24∧s4.size≤24∧s5.size≤24∧s6.size≤24∧s7.size≤24∧s8.size≤24) (x m0 m1 u1 u2:ByteArray) (c:Int) (cA:CV 36 #[.agg #[.string s0,.string s1,.string s2],.agg #[.string s3,.string s4]] (.tuple #[.string x,.int .i64 0])) (cN:CV 16 #[.agg #[.string s0,.string s1,.string s2]] (.int .i64 0)) (cD:CV 27 #[.agg #[.string s3,.string s4]] (.int .i64 0)) (cR1:∀ w,EnvV w→Calls Tryz.prog 21 #[.slice (some ⟨w.heap.size,0,none⟩) 1 1] (w.alloc (Obj.cells #[Value.string s5] 22)) (Ret w (.bool true))) (cD2:CV 27 #[.agg #[.string s6,.string s7]] (.int .i64 0)) (cR2:∀ w,EnvV w→Calls Tryz.prog 21 #[.slice (some ⟨w.heap.size,0,none⟩) 1 1] (w.alloc (Obj.cells #[Value.string s8] 22)) (Ret w (.bool true))) (cT:CV 38 #[.agg #[.string s3,.string s4,.string s5],.agg #[.string s6,.string s7,.string s8]] (.tuple #[.agg #[.string m0,.string m1,.string ⟨#[49]⟩],.int .i64 0])) (cM1:CV 23 #[.string s3,.string s7] (.string u1)) (cM2:CV 23 #[.string s4,.string s6] (.string u2)) (cC:CV 31 #[.string u1,.string u2] (.int .i64 c)) (cF:CV 37 #[.agg #[.string s0,.string s1,.string s2],.agg #[.string s3,.string s4]] (.string x)) (cR3:∀ w,EnvV w→Calls Tryz.prog 21 #[.slice (some ⟨w.heap.size,0,none⟩) 2 2] (w.alloc (Obj.cells #[Value.string m0,Value.string m1] 22)) (Ret w (.bool true))) (cF1:CV 37 #[.agg #[.string m0,.string m1,.string ⟨#[49]⟩],.agg #[.string s3,.string s4]] (.string s5)) (cF2:CV 37 #[.agg #[.string m0,.string m1,.string ⟨#[49]⟩],.agg #[.string s6,.string s7]] (.string s8)) (nc:c≠0) (hz:¬ s2.toList=[48]) (w:World) (R:EnvV w) :
   Calls Tryz.prog 9 #[.agg #[.string s0,.string s1,.string s2],.agg #[.string s3,.string s4,.string s5],.agg #[.string s6,.string s7,.string s8]] w (Ret w (.bool true)):=by
 have G_cD:=Lib.hid cD
 have G_cR1:=Lib.hid cR1
 have G_cD2:=Lib.hid cD2
 have G_cR2:=Lib.hid cR2
 have c1:=known15_any
 have c2:∀ w,EnvV w→Calls Tryz.prog 12 #[.slice (some ⟨w.heap.size,0,none⟩) 9 9] (w.alloc (Obj.cells #[Value.string s0,Value.string s1,Value.string s2,Value.string s3,Value.string s4,Value.string s5,Value.string s6,Value.string s7,Value.string s8] 22)) (Ret w (.bool true)):=fun w R=>short9 s0 s1 s2 s3 s4 s5 s6 s7 s8 true ⟨fun _=>hs,fun _=>rfl⟩ (Nat.le_trans hs.1 (by decide)) (Nat.le_trans hs.2.1 (by decide)) (Nat.le_trans hs.2.2.1 (by decide)) (Nat.le_trans hs.2.2.2.1 (by decide)) (Nat.le_trans hs.2.2.2.2.1 (by decide)) (Nat.le_trans hs.2.2.2.2.2.1 (by decide)) (Nat.le_trans hs.2.2.2.2.2.2.1 (by decide)) (Nat.le_trans hs.2.2.2.2.2.2.2.1 (by decide)) (Nat.le_trans hs.2.2.2.2.2.2.2.2 (by decide)) w R
 have c3:=cA
 have c4:=cN
 have c5:=cD
 have c6:=cF
 have c7:=cT
 have c8:=cM1
 have c9:=cM2
 have c10:=cC
 have c11:=cR3
 have c12:=cF1
 have c13:=cF2
 have eqc:(c == 0)=false:=beq_eq_false_iff_ne.2 nc
 have pqc:¬ c=0:=nc
 have ez:(s2.toList == [48])=false:=beq_eq_false_iff_ne.2 hz
 have pz:¬ s2.toList=[48]:=hz
 have C1:=Lib.hid c1
 have C2:=Lib.hid c2
 have C3:=Lib.hid c3
 have C4:=Lib.hid c4
 have C5:=Lib.hid c5
 have C6:=Lib.hid c6
 have C7:=Lib.hid c7
 have C8:=Lib.hid c8
 have C9:=Lib.hid c9
 have C10:=Lib.hid c10
 have C11:=Lib.hid c11
 have C12:=Lib.hid c12
 have C13:=Lib.hid c13
 clear c1 c2 c3 c4 c5 c6 c7 c8 c9 c10 c11 c12 c13 cA cN cD cR1 cD2 cR2 cT cM1 cM2 cC cF cR3 cF1 cF2 hs nc hz
 have hb:=Below.refl w.heap.size w
 go_enter Tryz.func9,Tryz.ntmps9
 go_upto_region 1 with fail
 refine wp_alloc3 (fun w1 a0 a1 a2 hk=>?_)
 replace hb:=hb.trans (hk.mono hb.size)
 clear hk
 obtain ⟨A5,A6,A7⟩:=ce3 a0
 obtain ⟨Ab,Ac,Ad⟩:=ce3 a1
 obtain ⟨Ae,Af,Ag⟩:=ce3 a2
 go_upto_region 14 with (first | ((first | (go_at_call 11;with_reducible refine (chVB hb R C1).mono ?_) | (go_at_call 12;with_reducible refine (zL hb (C2.out _ (R.below hb))).mono ?_) | (go_at_call 36;with_reducible refine (chVB hb R C3).mono ?_) | (go_at_call 16;with_reducible refine (chVB hb R C4).mono ?_) | (go_at_call 27;with_reducible refine (chVB hb R C5).mono ?_) | (go_at_call 37;with_reducible refine (chVB hb R C6).mono ?_));clear hb;rintro e w1 ⟨rfl,hk,hb⟩;clear A5 A6 A7 Ab Ac Ad Ae Af Ag;replace a0:=zB hk a0;replace a1:=zB hk a1;replace a2:=zB hk a2;obtain ⟨A5,A6,A7⟩:=ce3 a0;obtain ⟨Ab,Ac,Ad⟩:=ce3 a1;obtain ⟨Ae,Af,Ag⟩:=ce3 a2;clear hk) | (go_at_call 38;with_reducible refine (chVB hb R C7).mono ?_;clear hb;rintro e w1 ⟨rfl,hk,hb⟩;clear Ab Ac Ad Ae Af Ag;replace a1:=zB hk a1;replace a2:=zB hk a2;obtain ⟨Ab,Ac,Ad⟩:=ce3 a1;obtain ⟨Ae,Af,Ag⟩:=ce3 a2;clear hk))
 clear A5 A6 A7 a0
 refine wp_alloc1 (fun w1 Aa hk=>?_)
 clear Ab Ac Ad Ae Af Ag
 replace a1:=zB hk a1
 replace a2:=zB hk a2
 obtain ⟨Ab,Ac,Ad⟩:=ce3 a1
 obtain ⟨Ae,Af,Ag⟩:=ce3 a2
 replace hb:=hb.trans (hk.mono hb.size)
 clear hk
 obtain ⟨Ah,Ai,Aj⟩:=ce3 Aa
 go_wp2
 refine wp_alloc1 (fun w1 alp0 hk=>?_)
 clear Ab Ac Ad Ae Af Ag Ah Ai Aj
 replace a1:=zB hk a1
 replace a2:=zB hk a2
 replace Aa:=zB hk Aa
 obtain ⟨Ab,Ac,Ad⟩:=ce3 a1
 obtain ⟨Ae,Af,Ag⟩:=ce3 a2
 obtain ⟨Ah,Ai,Aj⟩:=ce3 Aa
 replace hb:=hb.trans (hk.mono hb.size)
 clear hk
 obtain ⟨Ak,Al,Am,An,Ao,Ap⟩:=ce6 alp0
 have HA1:=Lib.hid a1
 have HA2:=Lib.hid a2
 have HAg14_0:=Lib.hid Aa
 have HAlp0:=Lib.hid alp0
 have HB:=Lib.hid hb
 clear hb Ab Ac Ad Ae Af Ag Ah Ai Aj Ak Al Am An Ao Ap a1 a2 Aa alp0
 go_loopw [100,9] (fun i e wr=>((i = .int .i64 0∧e = .int .i64 0)∨(i = .int .i64 1∧e = .int .i64 0)∨(i = .int .i64 2∧e = .int .i64 0))∧Below w1.heap.size w1 wr) (fun i _ _=>2 - (intOf i).toNat)
 case atStart=>exact ⟨Or.inl ⟨rfl,rfl⟩,Below.refl _ _⟩
 case round =>
   obtain ⟨⟨rfl,rfl⟩ | ⟨rfl,rfl⟩ | ⟨rfl,rfl⟩,hw⟩:=hrel
   · have y0:=zC hw (zA HAlp0.out:w1.cell? ⟨_,0,none⟩=some (Value.string s3))
     have y1:=zC hw (zA HAlp0.out:w1.cell? ⟨_,1,none⟩=some (Value.string s4))
     have y2:=zC hw (zA HAlp0.out:w1.cell? ⟨_,2,none⟩=some (Value.string s5))
     go_wp2_with (first | (go_at_call 27;(refine calls_alloc1 (fun w9 a9 hk=>?_));replace hw:=hw.trans (hk.mono hw.size);clear hk;(with_reducible refine (zK hw (G_cD.out _ (R.below (HB.out.trans (hw.mono HB.out.size))))).mono ?_);clear hw;rintro e w8 ⟨rfl,hk,hw⟩;replace a9:=zB hk a9;clear hk;have x9:w8.cell? ⟨_,2,none⟩=some (Value.string s5):=zA a9;clear a9) | (go_at_call 21;(with_reducible refine (zL hw (G_cR1.out _ (R.below (HB.out.trans (hw.mono HB.out.size))))).mono ?_);clear hw;rintro e w7 ⟨rfl,hk,hw⟩;clear hk))
     go_roundw
     case rel=>exact ⟨Or.inr (Or.inl ⟨rfl,rfl⟩),hw⟩
     case measure=>simp [intOf]
   · have y0:=zC hw (zA HAlp0.out:w1.cell? ⟨_,3,none⟩=some (Value.string s6))
     have y1:=zC hw (zA HAlp0.out:w1.cell? ⟨_,4,none⟩=some (Value.string s7))
     have y2:=zC hw (zA HAlp0.out:w1.cell? ⟨_,5,none⟩=some (Value.string s8))
     go_wp2_with (first | (go_at_call 27;(refine calls_alloc1 (fun w9 a9 hk=>?_));replace hw:=hw.trans (hk.mono hw.size);clear hk;(with_reducible refine (zK hw (G_cD2.out _ (R.below (HB.out.trans (hw.mono HB.out.size))))).mono ?_);clear hw;rintro e w8 ⟨rfl,hk,hw⟩;replace a9:=zB hk a9;clear hk;have x9:w8.cell? ⟨_,2,none⟩=some (Value.string s8):=zA a9;clear a9) | (go_at_call 21;(with_reducible refine (zL hw (G_cR2.out _ (R.below (HB.out.trans (hw.mono HB.out.size))))).mono ?_);clear hw;rintro e w7 ⟨rfl,hk,hw⟩;clear hk))
     go_roundw
     case rel=>exact ⟨Or.inr (Or.inr ⟨rfl,rfl⟩),hw⟩
     case measure=>simp [intOf]
   · obtain ⟨w1,ew⟩:∃ w1,w1=wr:=⟨_,rfl⟩
     subst ew
     have hb:=HB.out.trans (hw.mono HB.out.size)
     have a1:=zB hw HA1.out
     obtain ⟨Ab,Ac,Ad⟩:=ce3 a1
     have a2:=zB hw HA2.out
     obtain ⟨Ae,Af,Ag⟩:=ce3 a2
     have Aa:=zB hw HAg14_0.out
     obtain ⟨Ah,Ai,Aj⟩:=ce3 Aa
     have alp0:=zB hw HAlp0.out
     obtain ⟨Ak,Al,Am,An,Ao,Ap⟩:=ce6 alp0
     clear hw
     go_upto_region 23 with fail
     obtain ⟨Aq,Ar,As⟩:=cy3 a1
     obtain ⟨At,Au,Av⟩:=cy3 a2
     obtain ⟨Aw,Ax,Ay⟩:=cy3 Aa
     obtain ⟨Az,A0,A1,A2,A3,A4⟩:=cy6 alp0
     have A8:=rrV C8 R hb
     have A9:=rrV C9 R hb
     have Ba:=rrV C10 R hb
     refine wp_region_quiet_below (by first | assumption | kernel_rfl) (by kernel_rfl) ?_
     repeat (quiet_step (first | (with_reducible exact A8.out _ _) | (with_reducible exact A9.out _ _) | (with_reducible exact Ba.out _ _)))
     refine wpQuiet_nil ?_
     intro w1 hw'
     obtain ⟨hk,hb⟩:=zQ hb hw'
     clear Ab Ac Ad Ae Af Ag Ah Ai Aj Ak Al Am An Ao Ap
     replace a1:=zB hk a1
     replace a2:=zB hk a2
     replace Aa:=zB hk Aa
     replace alp0:=zB hk alp0
     obtain ⟨Ab,Ac,Ad⟩:=ce3 a1
     obtain ⟨Ae,Af,Ag⟩:=ce3 a2
     obtain ⟨Ah,Ai,Aj⟩:=ce3 Aa
     obtain ⟨Ak,Al,Am,An,Ao,Ap⟩:=ce6 alp0
     clear A8 A9 Ba Aq Ar As At Au Av Aw Ax Ay Az A0 A1 A2 A3 A4
     clear hk hw'
     go_upto_region 27 with fail
     obtain ⟨Aq,Ar,As⟩:=cy3 a1
     obtain ⟨At,Au,Av⟩:=cy3 a2
     obtain ⟨Aw,Ax,Ay⟩:=cy3 Aa
     obtain ⟨Az,A0,A1,A2,A3,A4⟩:=cy6 alp0
     refine wp_region_mid 7 1 (by first | assumption | kernel_rfl) (by kernel_rfl) ?_
     simp only [List.take_succ_cons,List.take_zero,List.drop_succ_cons,List.drop_zero]
     repeat (quiet_step (first | fail))
     refine wpQuiet_nil ?_
     intro w1 hw'
     obtain ⟨hk,hb⟩:=zQ hb hw'
     clear Ab Ac Ad Ae Af Ag Ah Ai Aj Ak Al Am An Ao Ap
     replace a1:=zB hk a1
     replace a2:=zB hk a2
     replace Aa:=zB hk Aa
     replace alp0:=zB hk alp0
     obtain ⟨Ab,Ac,Ad⟩:=ce3 a1
     obtain ⟨Ae,Af,Ag⟩:=ce3 a2
     obtain ⟨Ah,Ai,Aj⟩:=ce3 Aa
     obtain ⟨Ak,Al,Am,An,Ao,Ap⟩:=ce6 alp0
     clear Aq Ar As At Au Av Aw Ax Ay Az A0 A1 A2 A3 A4
     clear hk hw'
     go_wp2_with (go_at_call 21;with_reducible refine (zL hb (C11.out _ (R.below hb))).mono ?_;clear hb;rintro e w1 ⟨rfl,hk,hb⟩;clear Ab Ac Ad Ae Af Ag Ah Ai Aj Ak Al Am An Ao Ap;replace a1:=zB hk a1;replace a2:=zB hk a2;replace Aa:=zB hk Aa;replace alp0:=zB hk alp0;obtain ⟨Ab,Ac,Ad⟩:=ce3 a1;obtain ⟨Ae,Af,Ag⟩:=ce3 a2;obtain ⟨Ah,Ai,Aj⟩:=ce3 Aa;obtain ⟨Ak,Al,Am,An,Ao,Ap⟩:=ce6 alp0;clear hk)
     obtain ⟨Aq,Ar,As⟩:=cy3 a1
     obtain ⟨At,Au,Av⟩:=cy3 a2
     obtain ⟨Aw,Ax,Ay⟩:=cy3 Aa
     obtain ⟨Az,A0,A1,A2,A3,A4⟩:=cy6 alp0
     have Bb:=rrV C12 R hb
     have Bc:=rrV C13 R hb
     refine ⟨w1,Below.refl _ _,?_⟩
     repeat (quiet_step (first | (with_reducible exact Bb.out _ _) | (with_reducible exact Bc.out _ _)))
     refine wpQuiet_nil ?_
     intro w1 hw'
     obtain ⟨hk,hb⟩:=zQ hb hw'
     clear Ab Ac Ad Ae Af Ag Ah Ai Aj Ak Al Am An Ao Ap
     replace a1:=zB hk a1
     replace a2:=zB hk a2
     replace Aa:=zB hk Aa
     replace alp0:=zB hk alp0
     obtain ⟨Ab,Ac,Ad⟩:=ce3 a1
     obtain ⟨Ae,Af,Ag⟩:=ce3 a2
     obtain ⟨Ah,Ai,Aj⟩:=ce3 Aa
     obtain ⟨Ak,Al,Am,An,Ao,Ap⟩:=ce6 alp0
     clear Bb Bc Aq Ar As At Au Av Aw Ax Ay Az A0 A1 A2 A3 A4
     clear hk hw'
     go_wp2
     first | go_ret | go_ret2 | go_ret3
     exact ⟨rfl,hb⟩
theorem cramer1 (x y z u v t:Rat) (h:((x*v) - (y*u))≠0):(((((z*v) - (y*t)) / ((x*v) - (y*u)))*x)+((((x*t) - (z*u)) / ((x*v) - (y*u)))*y)) / (1:Rat)=z:=by
 have e:((x*v) - (y*u))*((x*v) - (y*u))⁻¹=1:=Rat.mul_inv_cancel _ h
 rw [Rat.div_def,Rat.div_def,Rat.div_def,show (1:Rat)⁻¹=1 by decide +kernel]
 generalize ((x*v) - (y*u))⁻¹=i at *
 grind
theorem cramer2 (x y z u v t:Rat) (h:((x*v) - (y*u))≠0):(((((z*v) - (y*t)) / ((x*v) - (y*u)))*u)+((((x*t) - (z*u)) / ((x*v) - (y*u)))*v)) / (1:Rat)=t:=by
 have e:((x*v) - (y*u))*((x*v) - (y*u))⁻¹=1:=Rat.mul_inv_cancel _ h
 rw [Rat.div_def,Rat.div_def,Rat.div_def,show (1:Rat)⁻¹=1 by decide +kernel]
 generalize ((x*v) - (y*u))⁻¹=i at *
 grind
theorem rchk_ex (s:ByteArray) (hz:s.size≤100000):∃ v:Int,CV 78 #[.string s] (.int .i64 v):=by
 by_cases h:IsRat s.data.toList
 · exact ⟨0,fun w R=>rcheck_any s 0 (Or.inl ⟨h,rfl⟩) hz w R.toEnvR⟩
 · exact ⟨2,fun w R=>rcheck_any s 2 (Or.inr ⟨h,rfl⟩) hz w R.toEnvR⟩
theorem fchk_dir (ta tb tc:ByteArray) (v:Int) (h:NErr ta tb ⟨#[48]⟩ v) (za:ta.size≤100000) (zb:tb.size≤100000) (zc:tc.size≤100000) (w:World) (R:EnvV w) :
   Calls Tryz.prog 80 #[.agg #[.string ta,.string tb,.string tc]] w (Ret w (.int .i64 v)):=by
 obtain ⟨eo,co⟩:=rchk_ex tc zc
 exact fcheck_any ta tb tc v eo v (fun w R=>cdir_err ta tb v h za zb w R) co (fnz_1 v eo h.ne) w R
theorem fchk_by (p q:Rat) (tc:ByteArray) (np:RN p 24 24) (nq:RN q 24 24) (h:p≠0∨q≠0) (hr:¬ IsRat tc.data.toList) (zc:tc.size≤100000) (w:World) (R:EnvV w) :
   Calls Tryz.prog 80 #[.agg #[.string (ratB p),.string (ratB q),.string tc]] w (Ret w (.int .i64 2)):=
 fcheck_any _ _ tc 0 2 2 (fun w R=>cdir_ok p q (np.rl) (nq.rl) h w R) (fun w R=>rcheck_any tc 2 (Or.inr ⟨hr,rfl⟩) zc w R.toEnvR) (by decide) w R
theorem fchk_ok (p q r:Rat) (np:RN p 24 24) (nq:RN q 24 24) (nr:RN r 24 24) (h:p≠0∨q≠0) (w:World) (R:EnvV w) :
   Calls Tryz.prog 80 #[.agg #[.string (ratB p),.string (ratB q),.string (ratB r)]] w (Ret w (.int .i64 0)):=
 fcheck_any _ _ _ 0 0 0 (fun w R=>cdir_ok p q (np.rl) (nq.rl) h w R) (fun w R=>rcheck_any (ratB r) 0 (Or.inl ⟨isRat_of (nr.rl),rfl⟩) (Nat.le_trans (size_of_RL (nr.rl (K:=200))) (by decide)) w R.toEnvR) (by decide) w R
theorem fchk_ex (ta tb tc:ByteArray) (sa:ta.size≤24) (sb:tb.size≤24) (sc:tc.size≤24):∃ v:Int,CV 80 #[.agg #[.string ta,.string tb,.string tc]] (.int .i64 v):=by
 rcases dir_cases ta tb sa sb with ⟨v,hv⟩ | ⟨p,q,rfl,rfl,np,nq,h⟩
 · exact ⟨v,fun w R=>fchk_dir ta tb tc v hv (by omega) (by omega) (by omega) w R⟩
 · by_cases hr:IsRat tc.data.toList
   · obtain ⟨r,rfl,_⟩:=rat_of hr
     exact ⟨0,fun w R=>fchk_ok p q r np nq (RN_of (RL_of_size sc)) h w R⟩
   · exact ⟨2,fun w R=>fchk_by p q tc np nq h hr (by omega) w R⟩
theorem lawFalls (s0 s1 s2 s3 s4 s5 s6 s7 s8:ByteArray) (ms0:s0.size≤9223372036854775807) (ms1:s1.size≤9223372036854775807) (ms2:s2.size≤9223372036854775807) (ms3:s3.size≤9223372036854775807) (ms4:s4.size≤9223372036854775807) (ms5:s5.size≤9223372036854775807) (ms6:s6.size≤9223372036854775807) (ms7:s7.size≤9223372036854775807) (ms8:s8.size≤9223372036854775807) (w:World) (R:EnvV w) :
   Calls Tryz.prog 9 #[.agg #[.string s0,.string s1,.string s2],.agg #[.string s3,.string s4,.string s5],.agg #[.string s6,.string s7,.string s8]] w (Ret w (.bool true)):=by
 by_cases hs:s0.size≤24∧s1.size≤24∧s2.size≤24∧s3.size≤24∧s4.size≤24∧s5.size≤24∧s6.size≤24∧s7.size≤24∧s8.size≤24
 case neg=>exact falls_long s0 s1 s2 s3 s4 s5 s6 s7 s8 hs ms0 ms1 ms2 ms3 ms4 ms5 ms6 ms7 ms8 w R
 have hs':=hs
 obtain ⟨h0,h1,h2,h3,h4,h5,h6,h7,h8⟩:=hs'
 obtain ⟨eb,cb⟩:=fchk_ex s6 s7 s8 h6 h7 h8
 rcases dir_cases s3 s4 h3 h4 with ⟨va,hva⟩ | ⟨x,y,rfl,rfl,nx,ny,ha⟩
 · rcases normal_cases s0 s1 s2 h0 h1 h2 with ⟨nv,hv⟩ | ⟨a,b,c,rfl,rfl,rfl,na,nb,nc,h⟩
   · exact falls_1A _ _ _ _ _ _ _ _ _ hs _ _ (fun w R=>appar_err s0 s1 s2 _ _ va nv (fun w R=>cdir_err s3 s4 va hva (by omega) (by omega) w R) (fun w R=>slope_err s0 s1 s2 nv va nv (fun w R=>acheck_err s0 s1 s2 nv hv (by omega) (by omega) (by omega) w R) (fnz_1 nv va hv.ne) hv.ne w R) hv.ne w R) (fun w R=>normal_err s0 s1 s2 nv hv (by omega) (by omega) (by omega) w R) (fun w R=>ldir_err s3 s4 va hva (by omega) (by omega) w R) (fun w R=>true_err _ _ _ _ _ _ va eb va (fun w R=>fchk_dir s3 s4 s5 va hva (by omega) (by omega) (by omega) w R) cb (fnz_1 va eb hva.ne) hva.ne w R) hv.ne hva.ne w R
   · exact falls_2A _ _ _ _ _ _ _ _ _ hs _ (fun w R=>appar_err (ratB a) (ratB b) (ratB c) _ _ va va (fun w R=>cdir_err s3 s4 va hva (by omega) (by omega) w R) (fun w R=>slope_err (ratB a) (ratB b) (ratB c) 0 va va (fun w R=>acheck_ok a b c h (na.rl (K:=200)) (nb.rl (K:=200)) (nc.rl (K:=200)) w R) (fnz_l va) hva.ne w R) hva.ne w R) (fun w R=>normal_ok a b c (na.rl (K:=200)) (nb.rl (K:=200)) (nc.rl (K:=200)) h w R) (fun w R=>ldir_err s3 s4 va hva (by omega) (by omega) w R) (fun w R=>true_err _ _ _ _ _ _ va eb va (fun w R=>fchk_dir s3 s4 s5 va hva (by omega) (by omega) (by omega) w R) cb (fnz_1 va eb hva.ne) hva.ne w R) hva.ne w R
 · rcases normal_cases s0 s1 s2 h0 h1 h2 with ⟨nv,hv⟩ | ⟨a,b,c,rfl,rfl,rfl,na,nb,nc,h⟩
   · skip
     by_cases hr:IsRat s5.data.toList
     case neg=>exact falls_1B _ _ _ _ _ _ _ _ _ hs _ (fun w R=>appar_err s0 s1 s2 _ _ 0 nv (fun w R=>cdir_ok x y (nx.rl (K:=200)) (ny.rl (K:=200)) ha w R) (fun w R=>slope_err s0 s1 s2 nv 0 nv (fun w R=>acheck_err s0 s1 s2 nv hv (by omega) (by omega) (by omega) w R) (fnz_r nv) hv.ne w R) hv.ne w R) (fun w R=>normal_err s0 s1 s2 nv hv (by omega) (by omega) (by omega) w R) (fun w R=>ldir_ok x y (nx.rl (K:=200)) (ny.rl (K:=200)) ha w R) (fun w R=>right1 s5 false ⟨(fun h=>by cases h),fun k=>absurd k hr⟩ (by omega) w R) (fun w R=>true_err _ _ _ _ _ _ 2 eb 2 (fun w R=>fchk_by x y s5 nx ny ha hr (by omega) w R) cb (fnz_1 2 eb (by decide)) (by decide) w R) hv.ne w R
     obtain ⟨z,rfl,_⟩:=rat_of hr
     have nz:RN z 24 24:=RN_of (RL_of_size hs.2.2.2.2.2.1)
     clear hr
     rcases dir_cases s6 s7 hs.2.2.2.2.2.2.1 hs.2.2.2.2.2.2.2.1 with ⟨vb,hvb⟩ | ⟨u,v,rfl,rfl,nu,nv',hb⟩
     · exact falls_1C _ _ _ _ _ _ _ _ _ hs _ _ (fun w R=>appar_err s0 s1 s2 _ _ 0 nv (fun w R=>cdir_ok x y (nx.rl (K:=200)) (ny.rl (K:=200)) ha w R) (fun w R=>slope_err s0 s1 s2 nv 0 nv (fun w R=>acheck_err s0 s1 s2 nv hv (by omega) (by omega) (by omega) w R) (fnz_r nv) hv.ne w R) hv.ne w R) (fun w R=>normal_err s0 s1 s2 nv hv (by omega) (by omega) (by omega) w R) (fun w R=>ldir_ok x y (nx.rl (K:=200)) (ny.rl (K:=200)) ha w R) (fun w R=>right1 (ratB z) true ⟨fun _=>isRat_of (nz.rl (K:=200)),fun _=>rfl⟩ (Nat.le_trans (size_of_RL (nz.rl (K:=200))) (by decide)) w R) (fun w R=>ldir_err s6 s7 vb hvb (by omega) (by omega) w R) (fun w R=>true_err _ _ _ _ _ _ 0 vb vb (fun w R=>fchk_ok x y z nx ny nz ha w R) (fun w R=>fchk_dir s6 s7 s8 vb hvb (by omega) (by omega) (by omega) w R) (fnz_l vb) hvb.ne w R) hv.ne hvb.ne w R
     by_cases hr:IsRat s8.data.toList
     case neg=>exact falls_1D _ _ _ _ _ _ _ _ _ hs _ (fun w R=>appar_err s0 s1 s2 _ _ 0 nv (fun w R=>cdir_ok x y (nx.rl (K:=200)) (ny.rl (K:=200)) ha w R) (fun w R=>slope_err s0 s1 s2 nv 0 nv (fun w R=>acheck_err s0 s1 s2 nv hv (by omega) (by omega) (by omega) w R) (fnz_r nv) hv.ne w R) hv.ne w R) (fun w R=>normal_err s0 s1 s2 nv hv (by omega) (by omega) (by omega) w R) (fun w R=>ldir_ok x y (nx.rl (K:=200)) (ny.rl (K:=200)) ha w R) (fun w R=>right1 (ratB z) true ⟨fun _=>isRat_of (nz.rl (K:=200)),fun _=>rfl⟩ (Nat.le_trans (size_of_RL (nz.rl (K:=200))) (by decide)) w R) (fun w R=>ldir_ok u v (nu.rl (K:=200)) (nv'.rl (K:=200)) hb w R) (fun w R=>right1 s8 false ⟨(fun h=>by cases h),fun k=>absurd k hr⟩ (by omega) w R) (fun w R=>true_err _ _ _ _ _ _ 0 2 2 (fun w R=>fchk_ok x y z nx ny nz ha w R) (fun w R=>fchk_by u v s8 nu nv' hb hr (by omega) w R) (by decide) (by decide) w R) hv.ne w R
     obtain ⟨t,rfl,_⟩:=rat_of hr
     have nt:RN t 24 24:=RN_of (RL_of_size hs.2.2.2.2.2.2.2.2)
     by_cases hd:((x*v) - (y*u))=0
     · exact falls_1E _ _ _ _ _ _ _ _ _ hs _ _ _ (fun w R=>appar_err s0 s1 s2 _ _ 0 nv (fun w R=>cdir_ok x y (nx.rl (K:=200)) (ny.rl (K:=200)) ha w R) (fun w R=>slope_err s0 s1 s2 nv 0 nv (fun w R=>acheck_err s0 s1 s2 nv hv (by omega) (by omega) (by omega) w R) (fnz_r nv) hv.ne w R) hv.ne w R) (fun w R=>normal_err s0 s1 s2 nv hv (by omega) (by omega) (by omega) w R) (fun w R=>ldir_ok x y (nx.rl (K:=200)) (ny.rl (K:=200)) ha w R) (fun w R=>right1 (ratB z) true ⟨fun _=>isRat_of (nz.rl (K:=200)),fun _=>rfl⟩ (Nat.le_trans (size_of_RL (nz.rl (K:=200))) (by decide)) w R) (fun w R=>ldir_ok u v (nu.rl (K:=200)) (nv'.rl (K:=200)) hb w R) (fun w R=>right1 (ratB t) true ⟨fun _=>isRat_of (nt.rl (K:=200)),fun _=>rfl⟩ (Nat.le_trans (size_of_RL (nt.rl (K:=200))) (by decide)) w R) (fun w R=>true_dep x y z u v t hd (RN.rl (K:=200) nx) (RN.rl (K:=200) ny) ha (RN.rl (K:=200) nz) (RN.rl (K:=200) nu) (RN.rl (K:=200) nv' (by decide) (by decide)) hb (RN.rl (K:=200) nt) (RN.rl (K:=10000) nx) (RN.rl (K:=10000) nv' (by decide) (by decide)) (RN.rl (K:=10000) ny) (RN.rl (K:=10000) nu) (RN.rl (K:=10000) (RN_mul nx nv') (by decide) (by decide)) (RN.rl (K:=10000) (RN_mul ny nu) (by decide) (by decide)) w R) (fun w R=>rmul_any x v (RN.rl (K:=10000) nx) (RN.rl (K:=10000) nv' (by decide) (by decide)) w R.toEnvR) (fun w R=>rmul_any y u (RN.rl (K:=10000) ny) (RN.rl (K:=10000) nu) w R.toEnvR) (fun w R=>by have h:=rcompare_any (x*v) (y*u) (RN.rl (K:=10000) (RN_mul nx nv') (by decide) (by decide)) (RN.rl (K:=10000) (RN_mul ny nu) (by decide) (by decide)) w R.toEnvR;rw [show ((x*v) - (y*u)).num.sign=0 from by rw [hd];rfl] at h;exact h) hv.ne w R
     · have hcn:((x*v) - (y*u)).num.sign≠0:=fun k=>hd (Rat.num_eq_zero.1 (Int.sign_eq_zero_iff_zero.1 k))
       exact falls_1F _ _ _ _ _ _ _ _ _ hs _ _ _ _ _ _ (fun w R=>appar_err s0 s1 s2 _ _ 0 nv (fun w R=>cdir_ok x y (nx.rl (K:=200)) (ny.rl (K:=200)) ha w R) (fun w R=>slope_err s0 s1 s2 nv 0 nv (fun w R=>acheck_err s0 s1 s2 nv hv (by omega) (by omega) (by omega) w R) (fnz_r nv) hv.ne w R) hv.ne w R) (fun w R=>normal_err s0 s1 s2 nv hv (by omega) (by omega) (by omega) w R) (fun w R=>ldir_ok x y (nx.rl (K:=200)) (ny.rl (K:=200)) ha w R) (fun w R=>right1 (ratB z) true ⟨fun _=>isRat_of (nz.rl (K:=200)),fun _=>rfl⟩ (Nat.le_trans (size_of_RL (nz.rl (K:=200))) (by decide)) w R) (fun w R=>ldir_ok u v (nu.rl (K:=200)) (nv'.rl (K:=200)) hb w R) (fun w R=>right1 (ratB t) true ⟨fun _=>isRat_of (nt.rl (K:=200)),fun _=>rfl⟩ (Nat.le_trans (size_of_RL (nt.rl (K:=200))) (by decide)) w R) (fun w R=>true_ok x y z u v t hd (RN.rl (K:=200) nx) (RN.rl (K:=200) ny) ha (RN.rl (K:=200) nz) (RN.rl (K:=200) nu) (RN.rl (K:=200) nv' (by decide) (by decide)) hb (RN.rl (K:=200) nt) (RN.rl (K:=10000) nx) (RN.rl (K:=10000) nv' (by decide) (by decide)) (RN.rl (K:=10000) ny) (RN.rl (K:=10000) nu) (RN.rl (K:=10000) (RN_mul nx nv') (by decide) (by decide)) (RN.rl (K:=10000) (RN_mul ny nu) (by decide) (by decide)) (RN.rl (K:=10000) nz) (RN.rl (K:=10000) nt) (RN.rl (K:=10000) (RN_mul nz nv') (by decide) (by decide)) (RN.rl (K:=10000) (RN_mul ny nt) (by decide) (by decide)) hd (RN.rl (K:=10000) (RN_sub (N:=96) (RN_mul nz nv') (RN_mul ny nt)) (by decide) (by decide)) (RN.rl (K:=10000) (RN_sub (N:=96) (RN_mul nx nv') (RN_mul ny nu)) (by decide) (by decide)) (RN.rl (K:=200) (RN_div (RN_sub (N:=96) (RN_mul nz nv') (RN_mul ny nt)) (RN_sub (N:=96) (RN_mul nx nv') (RN_mul ny nu)) hd) (by decide) (by decide)) (RN.rl (K:=10000) (RN_mul nx nt) (by decide) (by decide)) (RN.rl (K:=10000) (RN_mul nz nu) (by decide) (by decide)) (RN.rl (K:=10000) (RN_sub (N:=96) (RN_mul nx nt) (RN_mul nz nu)) (by decide) (by decide)) (RN.rl (K:=200) (RN_div (RN_sub (N:=96) (RN_mul nx nt) (RN_mul nz nu)) (RN_sub (N:=96) (RN_mul nx nv') (RN_mul ny nu)) hd) (by decide) (by decide)) w R) (fun w R=>rmul_any x v (RN.rl (K:=10000) nx) (RN.rl (K:=10000) nv' (by decide) (by decide)) w R.toEnvR) (fun w R=>rmul_any y u (RN.rl (K:=10000) ny) (RN.rl (K:=10000) nu) w R.toEnvR) (fun w R=>rcompare_any (x*v) (y*u) (RN.rl (K:=10000) (RN_mul nx nv') (by decide) (by decide)) (RN.rl (K:=10000) (RN_mul ny nu) (by decide) (by decide)) w R.toEnvR) (fun w R=>right2 _ _ true ⟨fun _=>⟨isRat_of (RN.rl (K:=200) (RN_div (RN_sub (N:=96) (RN_mul nz nv') (RN_mul ny nt)) (RN_sub (N:=96) (RN_mul nx nv') (RN_mul ny nu)) hd) (by decide) (by decide)),isRat_of (RN.rl (K:=200) (RN_div (RN_sub (N:=96) (RN_mul nx nt) (RN_mul nz nu)) (RN_sub (N:=96) (RN_mul nx nv') (RN_mul ny nu)) hd) (by decide) (by decide))⟩,fun _=>rfl⟩ (Nat.le_trans (size_of_RL (K:=200) (RN.rl (K:=200) (RN_div (RN_sub (N:=96) (RN_mul nz nv') (RN_mul ny nt)) (RN_sub (N:=96) (RN_mul nx nv') (RN_mul ny nu)) hd) (by decide) (by decide))) (by decide)) (Nat.le_trans (size_of_RL (K:=200) (RN.rl (K:=200) (RN_div (RN_sub (N:=96) (RN_mul nx nt) (RN_mul nz nu)) (RN_sub (N:=96) (RN_mul nx nv') (RN_mul ny nu)) hd) (by decide) (by decide))) (by decide)) w R) (fun w R=>by have h:=(by have h:=lfall_any (((z*v) - (y*t)) / ((x*v) - (y*u))) (((x*t) - (z*u)) / ((x*v) - (y*u))) (1:Rat) x y (RN.rl (K:=10000) (RN_div (RN_sub (N:=96) (RN_mul nz nv') (RN_mul ny nt)) (RN_sub (N:=96) (RN_mul nx nv') (RN_mul ny nu)) hd) (by decide) (by decide)) (RN.rl (K:=10000) nx) (RN.rl (K:=10000) (RN_div (RN_sub (N:=96) (RN_mul nx nt) (RN_mul nz nu)) (RN_sub (N:=96) (RN_mul nx nv') (RN_mul ny nu)) hd) (by decide) (by decide)) (RN.rl (K:=10000) ny) (RN.rl (K:=10000) (RN_mul (RN_div (RN_sub (N:=96) (RN_mul nz nv') (RN_mul ny nt)) (RN_sub (N:=96) (RN_mul nx nv') (RN_mul ny nu)) hd) nx) (by decide) (by decide)) (RN.rl (K:=10000) (RN_mul (RN_div (RN_sub (N:=96) (RN_mul nx nt) (RN_mul nz nu)) (RN_sub (N:=96) (RN_mul nx nv') (RN_mul ny nu)) hd) ny) (by decide) (by decide)) (by decide) (RN.rl (K:=10000) (RN_add (N:=434) (RN_mul (RN_div (RN_sub (N:=96) (RN_mul nz nv') (RN_mul ny nt)) (RN_sub (N:=96) (RN_mul nx nv') (RN_mul ny nu)) hd) nx) (RN_mul (RN_div (RN_sub (N:=96) (RN_mul nx nt) (RN_mul nz nu)) (RN_sub (N:=96) (RN_mul nx nv') (RN_mul ny nu)) hd) ny)) (by decide) (by decide)) (RN.rl (K:=10000) rn_1) w R;simp only [rb_1] at h;exact h);rw [cramer1 x y z u v t hd] at h;exact h) (fun w R=>by have h:=(by have h:=lfall_any (((z*v) - (y*t)) / ((x*v) - (y*u))) (((x*t) - (z*u)) / ((x*v) - (y*u))) (1:Rat) u v (RN.rl (K:=10000) (RN_div (RN_sub (N:=96) (RN_mul nz nv') (RN_mul ny nt)) (RN_sub (N:=96) (RN_mul nx nv') (RN_mul ny nu)) hd) (by decide) (by decide)) (RN.rl (K:=10000) nu) (RN.rl (K:=10000) (RN_div (RN_sub (N:=96) (RN_mul nx nt) (RN_mul nz nu)) (RN_sub (N:=96) (RN_mul nx nv') (RN_mul ny nu)) hd) (by decide) (by decide)) (RN.rl (K:=10000) nv' (by decide) (by decide)) (RN.rl (K:=10000) (RN_mul (RN_div (RN_sub (N:=96) (RN_mul nz nv') (RN_mul ny nt)) (RN_sub (N:=96) (RN_mul nx nv') (RN_mul ny nu)) hd) nu) (by decide) (by decide)) (RN.rl (K:=10000) (RN_mul (RN_div (RN_sub (N:=96) (RN_mul nx nt) (RN_mul nz nu)) (RN_sub (N:=96) (RN_mul nx nv') (RN_mul ny nu)) hd) nv') (by decide) (by decide)) (by decide) (RN.rl (K:=10000) (RN_add (N:=434) (RN_mul (RN_div (RN_sub (N:=96) (RN_mul nz nv') (RN_mul ny nt)) (RN_sub (N:=96) (RN_mul nx nv') (RN_mul ny nu)) hd) nu) (RN_mul (RN_div (RN_sub (N:=96) (RN_mul nx nt) (RN_mul nz nu)) (RN_sub (N:=96) (RN_mul nx nv') (RN_mul ny nu)) hd) nv')) (by decide) (by decide)) (RN.rl (K:=10000) rn_1) w R;simp only [rb_1] at h;exact h);rw [cramer2 x y z u v t hd] at h;exact h) hv.ne hcn w R
   · by_cases hc:c=0
     · have hz:(ratB c).toList=[48]:=(zero_iff _).2 hc
       by_cases hr:IsRat s5.data.toList
       case neg=>exact falls_3B _ _ _ _ _ _ _ _ _ hs  (fun w R=>appar_err (ratB a) (ratB b) (ratB c) _ _ 0 21 (fun w R=>cdir_ok x y (nx.rl (K:=200)) (ny.rl (K:=200)) ha w R) (fun w R=>slope_v a b c h (na.rl (K:=200)) (nb.rl (K:=200)) (nc.rl (K:=200)) hc w R) (by decide) w R) (fun w R=>normal_ok a b c (na.rl (K:=200)) (nb.rl (K:=200)) (nc.rl (K:=200)) h w R) (fun w R=>ldir_ok x y (nx.rl (K:=200)) (ny.rl (K:=200)) ha w R) (fun w R=>right1 s5 false ⟨(fun h=>by cases h),fun k=>absurd k hr⟩ (by omega) w R) (fun w R=>true_err _ _ _ _ _ _ 2 eb 2 (fun w R=>fchk_by x y s5 nx ny ha hr (by omega) w R) cb (fnz_1 2 eb (by decide)) (by decide) w R) hz w R
       obtain ⟨z,rfl,_⟩:=rat_of hr
       have nz:RN z 24 24:=RN_of (RL_of_size hs.2.2.2.2.2.1)
       clear hr
       rcases dir_cases s6 s7 hs.2.2.2.2.2.2.1 hs.2.2.2.2.2.2.2.1 with ⟨vb,hvb⟩ | ⟨u,v,rfl,rfl,nu,nv',hb⟩
       · exact falls_3C _ _ _ _ _ _ _ _ _ hs _ (fun w R=>appar_err (ratB a) (ratB b) (ratB c) _ _ 0 21 (fun w R=>cdir_ok x y (nx.rl (K:=200)) (ny.rl (K:=200)) ha w R) (fun w R=>slope_v a b c h (na.rl (K:=200)) (nb.rl (K:=200)) (nc.rl (K:=200)) hc w R) (by decide) w R) (fun w R=>normal_ok a b c (na.rl (K:=200)) (nb.rl (K:=200)) (nc.rl (K:=200)) h w R) (fun w R=>ldir_ok x y (nx.rl (K:=200)) (ny.rl (K:=200)) ha w R) (fun w R=>right1 (ratB z) true ⟨fun _=>isRat_of (nz.rl (K:=200)),fun _=>rfl⟩ (Nat.le_trans (size_of_RL (nz.rl (K:=200))) (by decide)) w R) (fun w R=>ldir_err s6 s7 vb hvb (by omega) (by omega) w R) (fun w R=>true_err _ _ _ _ _ _ 0 vb vb (fun w R=>fchk_ok x y z nx ny nz ha w R) (fun w R=>fchk_dir s6 s7 s8 vb hvb (by omega) (by omega) (by omega) w R) (fnz_l vb) hvb.ne w R) hvb.ne hz w R
       by_cases hr:IsRat s8.data.toList
       case neg=>exact falls_3D _ _ _ _ _ _ _ _ _ hs  (fun w R=>appar_err (ratB a) (ratB b) (ratB c) _ _ 0 21 (fun w R=>cdir_ok x y (nx.rl (K:=200)) (ny.rl (K:=200)) ha w R) (fun w R=>slope_v a b c h (na.rl (K:=200)) (nb.rl (K:=200)) (nc.rl (K:=200)) hc w R) (by decide) w R) (fun w R=>normal_ok a b c (na.rl (K:=200)) (nb.rl (K:=200)) (nc.rl (K:=200)) h w R) (fun w R=>ldir_ok x y (nx.rl (K:=200)) (ny.rl (K:=200)) ha w R) (fun w R=>right1 (ratB z) true ⟨fun _=>isRat_of (nz.rl (K:=200)),fun _=>rfl⟩ (Nat.le_trans (size_of_RL (nz.rl (K:=200))) (by decide)) w R) (fun w R=>ldir_ok u v (nu.rl (K:=200)) (nv'.rl (K:=200)) hb w R) (fun w R=>right1 s8 false ⟨(fun h=>by cases h),fun k=>absurd k hr⟩ (by omega) w R) (fun w R=>true_err _ _ _ _ _ _ 0 2 2 (fun w R=>fchk_ok x y z nx ny nz ha w R) (fun w R=>fchk_by u v s8 nu nv' hb hr (by omega) w R) (by decide) (by decide) w R) hz w R
       obtain ⟨t,rfl,_⟩:=rat_of hr
       have nt:RN t 24 24:=RN_of (RL_of_size hs.2.2.2.2.2.2.2.2)
       by_cases hd:((x*v) - (y*u))=0
       · exact falls_3E _ _ _ _ _ _ _ _ _ hs _ _ (fun w R=>appar_err (ratB a) (ratB b) (ratB c) _ _ 0 21 (fun w R=>cdir_ok x y (nx.rl (K:=200)) (ny.rl (K:=200)) ha w R) (fun w R=>slope_v a b c h (na.rl (K:=200)) (nb.rl (K:=200)) (nc.rl (K:=200)) hc w R) (by decide) w R) (fun w R=>normal_ok a b c (na.rl (K:=200)) (nb.rl (K:=200)) (nc.rl (K:=200)) h w R) (fun w R=>ldir_ok x y (nx.rl (K:=200)) (ny.rl (K:=200)) ha w R) (fun w R=>right1 (ratB z) true ⟨fun _=>isRat_of (nz.rl (K:=200)),fun _=>rfl⟩ (Nat.le_trans (size_of_RL (nz.rl (K:=200))) (by decide)) w R) (fun w R=>ldir_ok u v (nu.rl (K:=200)) (nv'.rl (K:=200)) hb w R) (fun w R=>right1 (ratB t) true ⟨fun _=>isRat_of (nt.rl (K:=200)),fun _=>rfl⟩ (Nat.le_trans (size_of_RL (nt.rl (K:=200))) (by decide)) w R) (fun w R=>true_dep x y z u v t hd (RN.rl (K:=200) nx) (RN.rl (K:=200) ny) ha (RN.rl (K:=200) nz) (RN.rl (K:=200) nu) (RN.rl (K:=200) nv' (by decide) (by decide)) hb (RN.rl (K:=200) nt) (RN.rl (K:=10000) nx) (RN.rl (K:=10000) nv' (by decide) (by decide)) (RN.rl (K:=10000) ny) (RN.rl (K:=10000) nu) (RN.rl (K:=10000) (RN_mul nx nv') (by decide) (by decide)) (RN.rl (K:=10000) (RN_mul ny nu) (by decide) (by decide)) w R) (fun w R=>rmul_any x v (RN.rl (K:=10000) nx) (RN.rl (K:=10000) nv' (by decide) (by decide)) w R.toEnvR) (fun w R=>rmul_any y u (RN.rl (K:=10000) ny) (RN.rl (K:=10000) nu) w R.toEnvR) (fun w R=>by have h:=rcompare_any (x*v) (y*u) (RN.rl (K:=10000) (RN_mul nx nv') (by decide) (by decide)) (RN.rl (K:=10000) (RN_mul ny nu) (by decide) (by decide)) w R.toEnvR;rw [show ((x*v) - (y*u)).num.sign=0 from by rw [hd];rfl] at h;exact h) hz w R
       · have hcn:((x*v) - (y*u)).num.sign≠0:=fun k=>hd (Rat.num_eq_zero.1 (Int.sign_eq_zero_iff_zero.1 k))
         exact falls_3F _ _ _ _ _ _ _ _ _ hs _ _ _ _ _ (fun w R=>appar_err (ratB a) (ratB b) (ratB c) _ _ 0 21 (fun w R=>cdir_ok x y (nx.rl (K:=200)) (ny.rl (K:=200)) ha w R) (fun w R=>slope_v a b c h (na.rl (K:=200)) (nb.rl (K:=200)) (nc.rl (K:=200)) hc w R) (by decide) w R) (fun w R=>normal_ok a b c (na.rl (K:=200)) (nb.rl (K:=200)) (nc.rl (K:=200)) h w R) (fun w R=>ldir_ok x y (nx.rl (K:=200)) (ny.rl (K:=200)) ha w R) (fun w R=>right1 (ratB z) true ⟨fun _=>isRat_of (nz.rl (K:=200)),fun _=>rfl⟩ (Nat.le_trans (size_of_RL (nz.rl (K:=200))) (by decide)) w R) (fun w R=>ldir_ok u v (nu.rl (K:=200)) (nv'.rl (K:=200)) hb w R) (fun w R=>right1 (ratB t) true ⟨fun _=>isRat_of (nt.rl (K:=200)),fun _=>rfl⟩ (Nat.le_trans (size_of_RL (nt.rl (K:=200))) (by decide)) w R) (fun w R=>true_ok x y z u v t hd (RN.rl (K:=200) nx) (RN.rl (K:=200) ny) ha (RN.rl (K:=200) nz) (RN.rl (K:=200) nu) (RN.rl (K:=200) nv' (by decide) (by decide)) hb (RN.rl (K:=200) nt) (RN.rl (K:=10000) nx) (RN.rl (K:=10000) nv' (by decide) (by decide)) (RN.rl (K:=10000) ny) (RN.rl (K:=10000) nu) (RN.rl (K:=10000) (RN_mul nx nv') (by decide) (by decide)) (RN.rl (K:=10000) (RN_mul ny nu) (by decide) (by decide)) (RN.rl (K:=10000) nz) (RN.rl (K:=10000) nt) (RN.rl (K:=10000) (RN_mul nz nv') (by decide) (by decide)) (RN.rl (K:=10000) (RN_mul ny nt) (by decide) (by decide)) hd (RN.rl (K:=10000) (RN_sub (N:=96) (RN_mul nz nv') (RN_mul ny nt)) (by decide) (by decide)) (RN.rl (K:=10000) (RN_sub (N:=96) (RN_mul nx nv') (RN_mul ny nu)) (by decide) (by decide)) (RN.rl (K:=200) (RN_div (RN_sub (N:=96) (RN_mul nz nv') (RN_mul ny nt)) (RN_sub (N:=96) (RN_mul nx nv') (RN_mul ny nu)) hd) (by decide) (by decide)) (RN.rl (K:=10000) (RN_mul nx nt) (by decide) (by decide)) (RN.rl (K:=10000) (RN_mul nz nu) (by decide) (by decide)) (RN.rl (K:=10000) (RN_sub (N:=96) (RN_mul nx nt) (RN_mul nz nu)) (by decide) (by decide)) (RN.rl (K:=200) (RN_div (RN_sub (N:=96) (RN_mul nx nt) (RN_mul nz nu)) (RN_sub (N:=96) (RN_mul nx nv') (RN_mul ny nu)) hd) (by decide) (by decide)) w R) (fun w R=>rmul_any x v (RN.rl (K:=10000) nx) (RN.rl (K:=10000) nv' (by decide) (by decide)) w R.toEnvR) (fun w R=>rmul_any y u (RN.rl (K:=10000) ny) (RN.rl (K:=10000) nu) w R.toEnvR) (fun w R=>rcompare_any (x*v) (y*u) (RN.rl (K:=10000) (RN_mul nx nv') (by decide) (by decide)) (RN.rl (K:=10000) (RN_mul ny nu) (by decide) (by decide)) w R.toEnvR) (fun w R=>right2 _ _ true ⟨fun _=>⟨isRat_of (RN.rl (K:=200) (RN_div (RN_sub (N:=96) (RN_mul nz nv') (RN_mul ny nt)) (RN_sub (N:=96) (RN_mul nx nv') (RN_mul ny nu)) hd) (by decide) (by decide)),isRat_of (RN.rl (K:=200) (RN_div (RN_sub (N:=96) (RN_mul nx nt) (RN_mul nz nu)) (RN_sub (N:=96) (RN_mul nx nv') (RN_mul ny nu)) hd) (by decide) (by decide))⟩,fun _=>rfl⟩ (Nat.le_trans (size_of_RL (K:=200) (RN.rl (K:=200) (RN_div (RN_sub (N:=96) (RN_mul nz nv') (RN_mul ny nt)) (RN_sub (N:=96) (RN_mul nx nv') (RN_mul ny nu)) hd) (by decide) (by decide))) (by decide)) (Nat.le_trans (size_of_RL (K:=200) (RN.rl (K:=200) (RN_div (RN_sub (N:=96) (RN_mul nx nt) (RN_mul nz nu)) (RN_sub (N:=96) (RN_mul nx nv') (RN_mul ny nu)) hd) (by decide) (by decide))) (by decide)) w R) (fun w R=>by have h:=(by have h:=lfall_any (((z*v) - (y*t)) / ((x*v) - (y*u))) (((x*t) - (z*u)) / ((x*v) - (y*u))) (1:Rat) x y (RN.rl (K:=10000) (RN_div (RN_sub (N:=96) (RN_mul nz nv') (RN_mul ny nt)) (RN_sub (N:=96) (RN_mul nx nv') (RN_mul ny nu)) hd) (by decide) (by decide)) (RN.rl (K:=10000) nx) (RN.rl (K:=10000) (RN_div (RN_sub (N:=96) (RN_mul nx nt) (RN_mul nz nu)) (RN_sub (N:=96) (RN_mul nx nv') (RN_mul ny nu)) hd) (by decide) (by decide)) (RN.rl (K:=10000) ny) (RN.rl (K:=10000) (RN_mul (RN_div (RN_sub (N:=96) (RN_mul nz nv') (RN_mul ny nt)) (RN_sub (N:=96) (RN_mul nx nv') (RN_mul ny nu)) hd) nx) (by decide) (by decide)) (RN.rl (K:=10000) (RN_mul (RN_div (RN_sub (N:=96) (RN_mul nx nt) (RN_mul nz nu)) (RN_sub (N:=96) (RN_mul nx nv') (RN_mul ny nu)) hd) ny) (by decide) (by decide)) (by decide) (RN.rl (K:=10000) (RN_add (N:=434) (RN_mul (RN_div (RN_sub (N:=96) (RN_mul nz nv') (RN_mul ny nt)) (RN_sub (N:=96) (RN_mul nx nv') (RN_mul ny nu)) hd) nx) (RN_mul (RN_div (RN_sub (N:=96) (RN_mul nx nt) (RN_mul nz nu)) (RN_sub (N:=96) (RN_mul nx nv') (RN_mul ny nu)) hd) ny)) (by decide) (by decide)) (RN.rl (K:=10000) rn_1) w R;simp only [rb_1] at h;exact h);rw [cramer1 x y z u v t hd] at h;exact h) (fun w R=>by have h:=(by have h:=lfall_any (((z*v) - (y*t)) / ((x*v) - (y*u))) (((x*t) - (z*u)) / ((x*v) - (y*u))) (1:Rat) u v (RN.rl (K:=10000) (RN_div (RN_sub (N:=96) (RN_mul nz nv') (RN_mul ny nt)) (RN_sub (N:=96) (RN_mul nx nv') (RN_mul ny nu)) hd) (by decide) (by decide)) (RN.rl (K:=10000) nu) (RN.rl (K:=10000) (RN_div (RN_sub (N:=96) (RN_mul nx nt) (RN_mul nz nu)) (RN_sub (N:=96) (RN_mul nx nv') (RN_mul ny nu)) hd) (by decide) (by decide)) (RN.rl (K:=10000) nv' (by decide) (by decide)) (RN.rl (K:=10000) (RN_mul (RN_div (RN_sub (N:=96) (RN_mul nz nv') (RN_mul ny nt)) (RN_sub (N:=96) (RN_mul nx nv') (RN_mul ny nu)) hd) nu) (by decide) (by decide)) (RN.rl (K:=10000) (RN_mul (RN_div (RN_sub (N:=96) (RN_mul nx nt) (RN_mul nz nu)) (RN_sub (N:=96) (RN_mul nx nv') (RN_mul ny nu)) hd) nv') (by decide) (by decide)) (by decide) (RN.rl (K:=10000) (RN_add (N:=434) (RN_mul (RN_div (RN_sub (N:=96) (RN_mul nz nv') (RN_mul ny nt)) (RN_sub (N:=96) (RN_mul nx nv') (RN_mul ny nu)) hd) nu) (RN_mul (RN_div (RN_sub (N:=96) (RN_mul nx nt) (RN_mul nz nu)) (RN_sub (N:=96) (RN_mul nx nv') (RN_mul ny nu)) hd) nv')) (by decide) (by decide)) (RN.rl (K:=10000) rn_1) w R;simp only [rb_1] at h;exact h);rw [cramer2 x y z u v t hd] at h;exact h) hcn hz w R
     · have hz:¬ (ratB c).toList=[48]:=fun k=>hc ((zero_iff _).1 k)
       by_cases hr:IsRat s5.data.toList
       case neg=>exact falls_4B _ _ _ _ _ _ _ _ _ hs _ (fun w R=>appar_ok a b c x y (RN.rl (K:=200) nx) (RN.rl (K:=200) ny) ha (RN.rl (K:=200) na) (RN.rl (K:=200) nb) (RN.rl (K:=200) nc) hc (RN.rl (K:=10000) na) (RN.rl (K:=10000) nx) (RN.rl (K:=10000) nb) (RN.rl (K:=10000) ny) (RN.rl (K:=10000) (RN_mul na nx) (by decide) (by decide)) (RN.rl (K:=10000) (RN_mul nb ny) (by decide) (by decide)) (RN.rl (K:=10000) (RN_add (N:=96) (RN_mul na nx) (RN_mul nb ny)) (by decide) (by decide)) (RN.rl (K:=10000) nc) (RN.rl (K:=200) (RN_div (RN_add (N:=96) (RN_mul na nx) (RN_mul nb ny)) nc hc) (by decide) (by decide)) w R) (fun w R=>normal_ok a b c (na.rl (K:=200)) (nb.rl (K:=200)) (nc.rl (K:=200)) h w R) (fun w R=>ldir_ok x y (nx.rl (K:=200)) (ny.rl (K:=200)) ha w R) (fun w R=>right1 s5 false ⟨(fun h=>by cases h),fun k=>absurd k hr⟩ (by omega) w R) (fun w R=>true_err _ _ _ _ _ _ 2 eb 2 (fun w R=>fchk_by x y s5 nx ny ha hr (by omega) w R) cb (fnz_1 2 eb (by decide)) (by decide) w R) (fun w R=>lfall_any a b c x y (RN.rl (K:=10000) na) (RN.rl (K:=10000) nx) (RN.rl (K:=10000) nb) (RN.rl (K:=10000) ny) (RN.rl (K:=10000) (RN_mul na nx) (by decide) (by decide)) (RN.rl (K:=10000) (RN_mul nb ny) (by decide) (by decide)) hc (RN.rl (K:=10000) (RN_add (N:=96) (RN_mul na nx) (RN_mul nb ny)) (by decide) (by decide)) (RN.rl (K:=10000) nc) w R) hz w R
       obtain ⟨z,rfl,_⟩:=rat_of hr
       have nz:RN z 24 24:=RN_of (RL_of_size hs.2.2.2.2.2.1)
       clear hr
       rcases dir_cases s6 s7 hs.2.2.2.2.2.2.1 hs.2.2.2.2.2.2.2.1 with ⟨vb,hvb⟩ | ⟨u,v,rfl,rfl,nu,nv',hb⟩
       · exact falls_4C _ _ _ _ _ _ _ _ _ hs _ _ (fun w R=>appar_ok a b c x y (RN.rl (K:=200) nx) (RN.rl (K:=200) ny) ha (RN.rl (K:=200) na) (RN.rl (K:=200) nb) (RN.rl (K:=200) nc) hc (RN.rl (K:=10000) na) (RN.rl (K:=10000) nx) (RN.rl (K:=10000) nb) (RN.rl (K:=10000) ny) (RN.rl (K:=10000) (RN_mul na nx) (by decide) (by decide)) (RN.rl (K:=10000) (RN_mul nb ny) (by decide) (by decide)) (RN.rl (K:=10000) (RN_add (N:=96) (RN_mul na nx) (RN_mul nb ny)) (by decide) (by decide)) (RN.rl (K:=10000) nc) (RN.rl (K:=200) (RN_div (RN_add (N:=96) (RN_mul na nx) (RN_mul nb ny)) nc hc) (by decide) (by decide)) w R) (fun w R=>normal_ok a b c (na.rl (K:=200)) (nb.rl (K:=200)) (nc.rl (K:=200)) h w R) (fun w R=>ldir_ok x y (nx.rl (K:=200)) (ny.rl (K:=200)) ha w R) (fun w R=>right1 (ratB z) true ⟨fun _=>isRat_of (nz.rl (K:=200)),fun _=>rfl⟩ (Nat.le_trans (size_of_RL (nz.rl (K:=200))) (by decide)) w R) (fun w R=>ldir_err s6 s7 vb hvb (by omega) (by omega) w R) (fun w R=>true_err _ _ _ _ _ _ 0 vb vb (fun w R=>fchk_ok x y z nx ny nz ha w R) (fun w R=>fchk_dir s6 s7 s8 vb hvb (by omega) (by omega) (by omega) w R) (fnz_l vb) hvb.ne w R) (fun w R=>lfall_any a b c x y (RN.rl (K:=10000) na) (RN.rl (K:=10000) nx) (RN.rl (K:=10000) nb) (RN.rl (K:=10000) ny) (RN.rl (K:=10000) (RN_mul na nx) (by decide) (by decide)) (RN.rl (K:=10000) (RN_mul nb ny) (by decide) (by decide)) hc (RN.rl (K:=10000) (RN_add (N:=96) (RN_mul na nx) (RN_mul nb ny)) (by decide) (by decide)) (RN.rl (K:=10000) nc) w R) hvb.ne hz w R
       by_cases hr:IsRat s8.data.toList
       case neg=>exact falls_4D _ _ _ _ _ _ _ _ _ hs _ (fun w R=>appar_ok a b c x y (RN.rl (K:=200) nx) (RN.rl (K:=200) ny) ha (RN.rl (K:=200) na) (RN.rl (K:=200) nb) (RN.rl (K:=200) nc) hc (RN.rl (K:=10000) na) (RN.rl (K:=10000) nx) (RN.rl (K:=10000) nb) (RN.rl (K:=10000) ny) (RN.rl (K:=10000) (RN_mul na nx) (by decide) (by decide)) (RN.rl (K:=10000) (RN_mul nb ny) (by decide) (by decide)) (RN.rl (K:=10000) (RN_add (N:=96) (RN_mul na nx) (RN_mul nb ny)) (by decide) (by decide)) (RN.rl (K:=10000) nc) (RN.rl (K:=200) (RN_div (RN_add (N:=96) (RN_mul na nx) (RN_mul nb ny)) nc hc) (by decide) (by decide)) w R) (fun w R=>normal_ok a b c (na.rl (K:=200)) (nb.rl (K:=200)) (nc.rl (K:=200)) h w R) (fun w R=>ldir_ok x y (nx.rl (K:=200)) (ny.rl (K:=200)) ha w R) (fun w R=>right1 (ratB z) true ⟨fun _=>isRat_of (nz.rl (K:=200)),fun _=>rfl⟩ (Nat.le_trans (size_of_RL (nz.rl (K:=200))) (by decide)) w R) (fun w R=>ldir_ok u v (nu.rl (K:=200)) (nv'.rl (K:=200)) hb w R) (fun w R=>right1 s8 false ⟨(fun h=>by cases h),fun k=>absurd k hr⟩ (by omega) w R) (fun w R=>true_err _ _ _ _ _ _ 0 2 2 (fun w R=>fchk_ok x y z nx ny nz ha w R) (fun w R=>fchk_by u v s8 nu nv' hb hr (by omega) w R) (by decide) (by decide) w R) (fun w R=>lfall_any a b c x y (RN.rl (K:=10000) na) (RN.rl (K:=10000) nx) (RN.rl (K:=10000) nb) (RN.rl (K:=10000) ny) (RN.rl (K:=10000) (RN_mul na nx) (by decide) (by decide)) (RN.rl (K:=10000) (RN_mul nb ny) (by decide) (by decide)) hc (RN.rl (K:=10000) (RN_add (N:=96) (RN_mul na nx) (RN_mul nb ny)) (by decide) (by decide)) (RN.rl (K:=10000) nc) w R) hz w R
       obtain ⟨t,rfl,_⟩:=rat_of hr
       have nt:RN t 24 24:=RN_of (RL_of_size hs.2.2.2.2.2.2.2.2)
       by_cases hd:((x*v) - (y*u))=0
       · exact falls_4E _ _ _ _ _ _ _ _ _ hs _ _ _ (fun w R=>appar_ok a b c x y (RN.rl (K:=200) nx) (RN.rl (K:=200) ny) ha (RN.rl (K:=200) na) (RN.rl (K:=200) nb) (RN.rl (K:=200) nc) hc (RN.rl (K:=10000) na) (RN.rl (K:=10000) nx) (RN.rl (K:=10000) nb) (RN.rl (K:=10000) ny) (RN.rl (K:=10000) (RN_mul na nx) (by decide) (by decide)) (RN.rl (K:=10000) (RN_mul nb ny) (by decide) (by decide)) (RN.rl (K:=10000) (RN_add (N:=96) (RN_mul na nx) (RN_mul nb ny)) (by decide) (by decide)) (RN.rl (K:=10000) nc) (RN.rl (K:=200) (RN_div (RN_add (N:=96) (RN_mul na nx) (RN_mul nb ny)) nc hc) (by decide) (by decide)) w R) (fun w R=>normal_ok a b c (na.rl (K:=200)) (nb.rl (K:=200)) (nc.rl (K:=200)) h w R) (fun w R=>ldir_ok x y (nx.rl (K:=200)) (ny.rl (K:=200)) ha w R) (fun w R=>right1 (ratB z) true ⟨fun _=>isRat_of (nz.rl (K:=200)),fun _=>rfl⟩ (Nat.le_trans (size_of_RL (nz.rl (K:=200))) (by decide)) w R) (fun w R=>ldir_ok u v (nu.rl (K:=200)) (nv'.rl (K:=200)) hb w R) (fun w R=>right1 (ratB t) true ⟨fun _=>isRat_of (nt.rl (K:=200)),fun _=>rfl⟩ (Nat.le_trans (size_of_RL (nt.rl (K:=200))) (by decide)) w R) (fun w R=>true_dep x y z u v t hd (RN.rl (K:=200) nx) (RN.rl (K:=200) ny) ha (RN.rl (K:=200) nz) (RN.rl (K:=200) nu) (RN.rl (K:=200) nv' (by decide) (by decide)) hb (RN.rl (K:=200) nt) (RN.rl (K:=10000) nx) (RN.rl (K:=10000) nv' (by decide) (by decide)) (RN.rl (K:=10000) ny) (RN.rl (K:=10000) nu) (RN.rl (K:=10000) (RN_mul nx nv') (by decide) (by decide)) (RN.rl (K:=10000) (RN_mul ny nu) (by decide) (by decide)) w R) (fun w R=>rmul_any x v (RN.rl (K:=10000) nx) (RN.rl (K:=10000) nv' (by decide) (by decide)) w R.toEnvR) (fun w R=>rmul_any y u (RN.rl (K:=10000) ny) (RN.rl (K:=10000) nu) w R.toEnvR) (fun w R=>by have h:=rcompare_any (x*v) (y*u) (RN.rl (K:=10000) (RN_mul nx nv') (by decide) (by decide)) (RN.rl (K:=10000) (RN_mul ny nu) (by decide) (by decide)) w R.toEnvR;rw [show ((x*v) - (y*u)).num.sign=0 from by rw [hd];rfl] at h;exact h) (fun w R=>lfall_any a b c x y (RN.rl (K:=10000) na) (RN.rl (K:=10000) nx) (RN.rl (K:=10000) nb) (RN.rl (K:=10000) ny) (RN.rl (K:=10000) (RN_mul na nx) (by decide) (by decide)) (RN.rl (K:=10000) (RN_mul nb ny) (by decide) (by decide)) hc (RN.rl (K:=10000) (RN_add (N:=96) (RN_mul na nx) (RN_mul nb ny)) (by decide) (by decide)) (RN.rl (K:=10000) nc) w R) hz w R
       · have hcn:((x*v) - (y*u)).num.sign≠0:=fun k=>hd (Rat.num_eq_zero.1 (Int.sign_eq_zero_iff_zero.1 k))
         exact falls_4F _ _ _ _ _ _ _ _ _ hs _ _ _ _ _ _ (fun w R=>appar_ok a b c x y (RN.rl (K:=200) nx) (RN.rl (K:=200) ny) ha (RN.rl (K:=200) na) (RN.rl (K:=200) nb) (RN.rl (K:=200) nc) hc (RN.rl (K:=10000) na) (RN.rl (K:=10000) nx) (RN.rl (K:=10000) nb) (RN.rl (K:=10000) ny) (RN.rl (K:=10000) (RN_mul na nx) (by decide) (by decide)) (RN.rl (K:=10000) (RN_mul nb ny) (by decide) (by decide)) (RN.rl (K:=10000) (RN_add (N:=96) (RN_mul na nx) (RN_mul nb ny)) (by decide) (by decide)) (RN.rl (K:=10000) nc) (RN.rl (K:=200) (RN_div (RN_add (N:=96) (RN_mul na nx) (RN_mul nb ny)) nc hc) (by decide) (by decide)) w R) (fun w R=>normal_ok a b c (na.rl (K:=200)) (nb.rl (K:=200)) (nc.rl (K:=200)) h w R) (fun w R=>ldir_ok x y (nx.rl (K:=200)) (ny.rl (K:=200)) ha w R) (fun w R=>right1 (ratB z) true ⟨fun _=>isRat_of (nz.rl (K:=200)),fun _=>rfl⟩ (Nat.le_trans (size_of_RL (nz.rl (K:=200))) (by decide)) w R) (fun w R=>ldir_ok u v (nu.rl (K:=200)) (nv'.rl (K:=200)) hb w R) (fun w R=>right1 (ratB t) true ⟨fun _=>isRat_of (nt.rl (K:=200)),fun _=>rfl⟩ (Nat.le_trans (size_of_RL (nt.rl (K:=200))) (by decide)) w R) (fun w R=>true_ok x y z u v t hd (RN.rl (K:=200) nx) (RN.rl (K:=200) ny) ha (RN.rl (K:=200) nz) (RN.rl (K:=200) nu) (RN.rl (K:=200) nv' (by decide) (by decide)) hb (RN.rl (K:=200) nt) (RN.rl (K:=10000) nx) (RN.rl (K:=10000) nv' (by decide) (by decide)) (RN.rl (K:=10000) ny) (RN.rl (K:=10000) nu) (RN.rl (K:=10000) (RN_mul nx nv') (by decide) (by decide)) (RN.rl (K:=10000) (RN_mul ny nu) (by decide) (by decide)) (RN.rl (K:=10000) nz) (RN.rl (K:=10000) nt) (RN.rl (K:=10000) (RN_mul nz nv') (by decide) (by decide)) (RN.rl (K:=10000) (RN_mul ny nt) (by decide) (by decide)) hd (RN.rl (K:=10000) (RN_sub (N:=96) (RN_mul nz nv') (RN_mul ny nt)) (by decide) (by decide)) (RN.rl (K:=10000) (RN_sub (N:=96) (RN_mul nx nv') (RN_mul ny nu)) (by decide) (by decide)) (RN.rl (K:=200) (RN_div (RN_sub (N:=96) (RN_mul nz nv') (RN_mul ny nt)) (RN_sub (N:=96) (RN_mul nx nv') (RN_mul ny nu)) hd) (by decide) (by decide)) (RN.rl (K:=10000) (RN_mul nx nt) (by decide) (by decide)) (RN.rl (K:=10000) (RN_mul nz nu) (by decide) (by decide)) (RN.rl (K:=10000) (RN_sub (N:=96) (RN_mul nx nt) (RN_mul nz nu)) (by decide) (by decide)) (RN.rl (K:=200) (RN_div (RN_sub (N:=96) (RN_mul nx nt) (RN_mul nz nu)) (RN_sub (N:=96) (RN_mul nx nv') (RN_mul ny nu)) hd) (by decide) (by decide)) w R) (fun w R=>rmul_any x v (RN.rl (K:=10000) nx) (RN.rl (K:=10000) nv' (by decide) (by decide)) w R.toEnvR) (fun w R=>rmul_any y u (RN.rl (K:=10000) ny) (RN.rl (K:=10000) nu) w R.toEnvR) (fun w R=>rcompare_any (x*v) (y*u) (RN.rl (K:=10000) (RN_mul nx nv') (by decide) (by decide)) (RN.rl (K:=10000) (RN_mul ny nu) (by decide) (by decide)) w R.toEnvR) (fun w R=>lfall_any a b c x y (RN.rl (K:=10000) na) (RN.rl (K:=10000) nx) (RN.rl (K:=10000) nb) (RN.rl (K:=10000) ny) (RN.rl (K:=10000) (RN_mul na nx) (by decide) (by decide)) (RN.rl (K:=10000) (RN_mul nb ny) (by decide) (by decide)) hc (RN.rl (K:=10000) (RN_add (N:=96) (RN_mul na nx) (RN_mul nb ny)) (by decide) (by decide)) (RN.rl (K:=10000) nc) w R) (fun w R=>right2 _ _ true ⟨fun _=>⟨isRat_of (RN.rl (K:=200) (RN_div (RN_sub (N:=96) (RN_mul nz nv') (RN_mul ny nt)) (RN_sub (N:=96) (RN_mul nx nv') (RN_mul ny nu)) hd) (by decide) (by decide)),isRat_of (RN.rl (K:=200) (RN_div (RN_sub (N:=96) (RN_mul nx nt) (RN_mul nz nu)) (RN_sub (N:=96) (RN_mul nx nv') (RN_mul ny nu)) hd) (by decide) (by decide))⟩,fun _=>rfl⟩ (Nat.le_trans (size_of_RL (K:=200) (RN.rl (K:=200) (RN_div (RN_sub (N:=96) (RN_mul nz nv') (RN_mul ny nt)) (RN_sub (N:=96) (RN_mul nx nv') (RN_mul ny nu)) hd) (by decide) (by decide))) (by decide)) (Nat.le_trans (size_of_RL (K:=200) (RN.rl (K:=200) (RN_div (RN_sub (N:=96) (RN_mul nx nt) (RN_mul nz nu)) (RN_sub (N:=96) (RN_mul nx nv') (RN_mul ny nu)) hd) (by decide) (by decide))) (by decide)) w R) (fun w R=>by have h:=(by have h:=lfall_any (((z*v) - (y*t)) / ((x*v) - (y*u))) (((x*t) - (z*u)) / ((x*v) - (y*u))) (1:Rat) x y (RN.rl (K:=10000) (RN_div (RN_sub (N:=96) (RN_mul nz nv') (RN_mul ny nt)) (RN_sub (N:=96) (RN_mul nx nv') (RN_mul ny nu)) hd) (by decide) (by decide)) (RN.rl (K:=10000) nx) (RN.rl (K:=10000) (RN_div (RN_sub (N:=96) (RN_mul nx nt) (RN_mul nz nu)) (RN_sub (N:=96) (RN_mul nx nv') (RN_mul ny nu)) hd) (by decide) (by decide)) (RN.rl (K:=10000) ny) (RN.rl (K:=10000) (RN_mul (RN_div (RN_sub (N:=96) (RN_mul nz nv') (RN_mul ny nt)) (RN_sub (N:=96) (RN_mul nx nv') (RN_mul ny nu)) hd) nx) (by decide) (by decide)) (RN.rl (K:=10000) (RN_mul (RN_div (RN_sub (N:=96) (RN_mul nx nt) (RN_mul nz nu)) (RN_sub (N:=96) (RN_mul nx nv') (RN_mul ny nu)) hd) ny) (by decide) (by decide)) (by decide) (RN.rl (K:=10000) (RN_add (N:=434) (RN_mul (RN_div (RN_sub (N:=96) (RN_mul nz nv') (RN_mul ny nt)) (RN_sub (N:=96) (RN_mul nx nv') (RN_mul ny nu)) hd) nx) (RN_mul (RN_div (RN_sub (N:=96) (RN_mul nx nt) (RN_mul nz nu)) (RN_sub (N:=96) (RN_mul nx nv') (RN_mul ny nu)) hd) ny)) (by decide) (by decide)) (RN.rl (K:=10000) rn_1) w R;simp only [rb_1] at h;exact h);rw [cramer1 x y z u v t hd] at h;exact h) (fun w R=>by have h:=(by have h:=lfall_any (((z*v) - (y*t)) / ((x*v) - (y*u))) (((x*t) - (z*u)) / ((x*v) - (y*u))) (1:Rat) u v (RN.rl (K:=10000) (RN_div (RN_sub (N:=96) (RN_mul nz nv') (RN_mul ny nt)) (RN_sub (N:=96) (RN_mul nx nv') (RN_mul ny nu)) hd) (by decide) (by decide)) (RN.rl (K:=10000) nu) (RN.rl (K:=10000) (RN_div (RN_sub (N:=96) (RN_mul nx nt) (RN_mul nz nu)) (RN_sub (N:=96) (RN_mul nx nv') (RN_mul ny nu)) hd) (by decide) (by decide)) (RN.rl (K:=10000) nv' (by decide) (by decide)) (RN.rl (K:=10000) (RN_mul (RN_div (RN_sub (N:=96) (RN_mul nz nv') (RN_mul ny nt)) (RN_sub (N:=96) (RN_mul nx nv') (RN_mul ny nu)) hd) nu) (by decide) (by decide)) (RN.rl (K:=10000) (RN_mul (RN_div (RN_sub (N:=96) (RN_mul nx nt) (RN_mul nz nu)) (RN_sub (N:=96) (RN_mul nx nv') (RN_mul ny nu)) hd) nv') (by decide) (by decide)) (by decide) (RN.rl (K:=10000) (RN_add (N:=434) (RN_mul (RN_div (RN_sub (N:=96) (RN_mul nz nv') (RN_mul ny nt)) (RN_sub (N:=96) (RN_mul nx nv') (RN_mul ny nu)) hd) nu) (RN_mul (RN_div (RN_sub (N:=96) (RN_mul nx nt) (RN_mul nz nu)) (RN_sub (N:=96) (RN_mul nx nv') (RN_mul ny nu)) hd) nv')) (by decide) (by decide)) (RN.rl (K:=10000) rn_1) w R;simp only [rb_1] at h;exact h);rw [cramer2 x y z u v t hd] at h;exact h) hcn hz w R
end Go.Proofs.YtejfiegmdllfbaaGreatDoor.Kl
