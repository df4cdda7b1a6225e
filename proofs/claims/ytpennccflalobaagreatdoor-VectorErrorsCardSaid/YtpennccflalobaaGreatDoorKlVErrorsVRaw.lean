import Derived.Test.YtpennccflalobaaGreatDoorKlVErrorsVZ2
namespace Go.Proofs.YtpennccflalobaaGreatDoor.Kl
open Go Go.RowKit
set_option maxRecDepth 100000
set_option maxHeartbeats 8000000
theorem rat_of {s:ByteArray} (h:IsRat s.data.toList):∃ q:Rat,s=ratB q∧RL q 200:=by
 obtain ⟨q,e,hq⟩:=h
 refine ⟨q,?_,hq⟩
 unfold ratB strOf
 rw [← e]
theorem ne2 : (2:Int)≠0:=by decide
theorem check3_raw  (a b c:ByteArray) (v:Int) (h0:(IsRat a.data.toList∧IsRat b.data.toList∧IsRat c.data.toList)→v=0) (h2:¬ (IsRat a.data.toList∧IsRat b.data.toList∧IsRat c.data.toList)→v=2) (za:a.size≤100000) (zb:b.size≤100000) (zc:c.size≤100000) (w:World) (R:EnvV w) :
   Calls Tryz.prog 15 #[.agg #[.string a,.string b,.string c]] w (Ret w (.int .i64 v)):=by
 have c1:=fun (w:World) (R:EnvV w)=>numCheck3 a b c v h0 h2 za zb zc w R.toEnvR
 have C1:=Lib.hid c1
 clear c1 h0 h2 za zb zc
 have hb:=Below.refl w.heap.size w
 go_enter Tryz.func15,Tryz.ntmps15
 go_upto_region 1 with fail
 refine wp_alloc1 (fun w1 a0 hk=>?_)
 replace hb:=hb.trans (hk.mono hb.size)
 clear hk
 obtain ⟨Aa,Ab,Ac⟩:=ce3 a0
 go_wp2_with (go_at_call 67;with_reducible refine (zL hb (C1.out _ (R.below hb))).mono ?_;clear hb;rintro e w1 ⟨rfl,hk,hb⟩;clear Aa Ab Ac;replace a0:=zB hk a0;obtain ⟨Aa,Ab,Ac⟩:=ce3 a0;clear hk)
 first | go_ret | go_ret2 | go_ret3
 exact ⟨rfl,hb⟩
theorem check2_raw  (a b:ByteArray) (v:Int) (h0:(IsRat a.data.toList∧IsRat b.data.toList)→v=0) (h2:¬ (IsRat a.data.toList∧IsRat b.data.toList)→v=2) (za:a.size≤100000) (zb:b.size≤100000) (w:World) (R:EnvV w) :
   Calls Tryz.prog 17 #[.agg #[.string a,.string b]] w (Ret w (.int .i64 v)):=by
 have c1:=fun (w:World) (R:EnvV w)=>numCheck2 a b v h0 h2 za zb w R.toEnvR
 have C1:=Lib.hid c1
 clear c1 h0 h2 za zb
 have hb:=Below.refl w.heap.size w
 go_enter Tryz.func17,Tryz.ntmps17
 go_upto_region 1 with fail
 refine wp_alloc1 (fun w1 a0 hk=>?_)
 replace hb:=hb.trans (hk.mono hb.size)
 clear hk
 obtain ⟨Aa,Ab⟩:=ce2 a0
 go_wp2_with (go_at_call 67;with_reducible refine (zL hb (C1.out _ (R.below hb))).mono ?_;clear hb;rintro e w1 ⟨rfl,hk,hb⟩;clear Aa Ab;replace a0:=zB hk a0;obtain ⟨Aa,Ab⟩:=ce2 a0;clear hk)
 first | go_ret | go_ret2 | go_ret3
 exact ⟨rfl,hb⟩
theorem right3_0  (a b c:ByteArray) (ia:¬ IsRat a.data.toList) (za:a.size≤100000) (_zb:b.size≤100000) (_zc:c.size≤100000) (w:World) (R:EnvV w) :
   Calls Tryz.prog 40 #[.agg #[.string a,.string b,.string c]] w (Ret w (.bool false)):=by
 have c1:=fun (w:World) (R:EnvV w)=>refRRight_any a false ⟨(fun h=>by cases h),fun h=>absurd h ia⟩ za w R.toEnvR
 have C1:=Lib.hid c1
 clear c1 ia za _zb _zc
 have hb:=Below.refl w.heap.size w
 go_enter Tryz.func40,Tryz.ntmps40
 go_upto_region 1 with fail
 refine wp_alloc1 (fun w1 a0 hk=>?_)
 replace hb:=hb.trans (hk.mono hb.size)
 clear hk
 obtain ⟨Aa,Ab,Ac⟩:=ce3 a0
 go_wp2_with (go_at_call 28;with_reducible refine (chVB hb R C1).mono ?_;clear hb;rintro e w1 ⟨rfl,hk,hb⟩;clear Aa Ab Ac;replace a0:=zB hk a0;obtain ⟨Aa,Ab,Ac⟩:=ce3 a0;clear hk)
 first | go_ret | go_ret2 | go_ret3
 exact ⟨rfl,hb⟩
theorem right3_1  (a b c:ByteArray) (ia:IsRat a.data.toList) (ib:¬ IsRat b.data.toList) (za:a.size≤100000) (zb:b.size≤100000) (_zc:c.size≤100000) (w:World) (R:EnvV w) :
   Calls Tryz.prog 40 #[.agg #[.string a,.string b,.string c]] w (Ret w (.bool false)):=by
 have c1:CV 28 #[.string a] (.bool true):=fun w R=>refRRight_any a true ⟨fun _=>ia,fun _=>rfl⟩ za w R.toEnvR
 have c2:=fun (w:World) (R:EnvV w)=>refRRight_any b false ⟨(fun h=>by cases h),fun h=>absurd h ib⟩ zb w R.toEnvR
 have C1:=Lib.hid c1
 have C2:=Lib.hid c2
 clear c1 c2 ia ib za zb _zc
 have hb:=Below.refl w.heap.size w
 go_enter Tryz.func40,Tryz.ntmps40
 go_upto_region 1 with fail
 refine wp_alloc1 (fun w1 a0 hk=>?_)
 replace hb:=hb.trans (hk.mono hb.size)
 clear hk
 obtain ⟨Aa,Ab,Ac⟩:=ce3 a0
 go_wp2_with ((go_at_call 28;first | with_reducible refine (chVB hb R C1).mono ?_ | with_reducible refine (chVB hb R C2).mono ?_);clear hb;rintro e w1 ⟨rfl,hk,hb⟩;clear Aa Ab Ac;replace a0:=zB hk a0;obtain ⟨Aa,Ab,Ac⟩:=ce3 a0;clear hk)
 first | go_ret | go_ret2 | go_ret3
 exact ⟨rfl,hb⟩
theorem right3_2  (a b c:ByteArray) (ia:IsRat a.data.toList) (ib:IsRat b.data.toList) (ic:¬ IsRat c.data.toList) (za:a.size≤100000) (zb:b.size≤100000) (zc:c.size≤100000) (w:World) (R:EnvV w) :
   Calls Tryz.prog 40 #[.agg #[.string a,.string b,.string c]] w (Ret w (.bool false)):=by
 have c1:CV 28 #[.string a] (.bool true):=fun w R=>refRRight_any a true ⟨fun _=>ia,fun _=>rfl⟩ za w R.toEnvR
 have c2:CV 28 #[.string b] (.bool true):=fun w R=>refRRight_any b true ⟨fun _=>ib,fun _=>rfl⟩ zb w R.toEnvR
 have c3:=fun (w:World) (R:EnvV w)=>refRRight_any c false ⟨(fun h=>by cases h),fun h=>absurd h ic⟩ zc w R.toEnvR
 have C1:=Lib.hid c1
 have C2:=Lib.hid c2
 have C3:=Lib.hid c3
 clear c1 c2 c3 ia ib ic za zb zc
 have hb:=Below.refl w.heap.size w
 go_enter Tryz.func40,Tryz.ntmps40
 go_upto_region 1 with fail
 refine wp_alloc1 (fun w1 a0 hk=>?_)
 replace hb:=hb.trans (hk.mono hb.size)
 clear hk
 obtain ⟨Aa,Ab,Ac⟩:=ce3 a0
 go_wp2_with ((go_at_call 28;first | with_reducible refine (chVB hb R C1).mono ?_ | with_reducible refine (chVB hb R C2).mono ?_ | with_reducible refine (chVB hb R C3).mono ?_);clear hb;rintro e w1 ⟨rfl,hk,hb⟩;clear Aa Ab Ac;replace a0:=zB hk a0;obtain ⟨Aa,Ab,Ac⟩:=ce3 a0;clear hk)
 first | go_ret | go_ret2 | go_ret3
 exact ⟨rfl,hb⟩
theorem right3_3  (a b c:ByteArray) (ia:IsRat a.data.toList) (ib:IsRat b.data.toList) (ic:IsRat c.data.toList) (za:a.size≤100000) (zb:b.size≤100000) (zc:c.size≤100000) (w:World) (R:EnvV w) :
   Calls Tryz.prog 40 #[.agg #[.string a,.string b,.string c]] w (Ret w (.bool true)):=by
 have c1:CV 28 #[.string a] (.bool true):=fun w R=>refRRight_any a true ⟨fun _=>ia,fun _=>rfl⟩ za w R.toEnvR
 have c2:CV 28 #[.string b] (.bool true):=fun w R=>refRRight_any b true ⟨fun _=>ib,fun _=>rfl⟩ zb w R.toEnvR
 have c3:CV 28 #[.string c] (.bool true):=fun w R=>refRRight_any c true ⟨fun _=>ic,fun _=>rfl⟩ zc w R.toEnvR
 have C1:=Lib.hid c1
 have C2:=Lib.hid c2
 have C3:=Lib.hid c3
 clear c1 c2 c3 ia ib ic za zb zc
 have hb:=Below.refl w.heap.size w
 go_enter Tryz.func40,Tryz.ntmps40
 go_upto_region 1 with fail
 refine wp_alloc1 (fun w1 a0 hk=>?_)
 replace hb:=hb.trans (hk.mono hb.size)
 clear hk
 obtain ⟨Aa,Ab,Ac⟩:=ce3 a0
 go_wp2_with ((go_at_call 28;first | with_reducible refine (chVB hb R C1).mono ?_ | with_reducible refine (chVB hb R C2).mono ?_ | with_reducible refine (chVB hb R C3).mono ?_);clear hb;rintro e w1 ⟨rfl,hk,hb⟩;clear Aa Ab Ac;replace a0:=zB hk a0;obtain ⟨Aa,Ab,Ac⟩:=ce3 a0;clear hk)
 first | go_ret | go_ret2 | go_ret3
 exact ⟨rfl,hb⟩
theorem right3_raw (a b c:ByteArray) (r:Bool) (hr:r=true↔(IsRat a.data.toList∧IsRat b.data.toList∧IsRat c.data.toList)) (za:a.size≤100000) (zb:b.size≤100000) (zc:c.size≤100000) (w:World) (R:EnvV w) :
   Calls Tryz.prog 40 #[.agg #[.string a,.string b,.string c]] w (Ret w (.bool r)):=by
 by_cases ia:IsRat a.data.toList
 · skip
   by_cases ib:IsRat b.data.toList
   · skip
     by_cases ic:IsRat c.data.toList
     · skip
       obtain rfl:r=true:=hr.2 ⟨ia,ib,ic⟩
       exact right3_3 a b c ia ib ic za zb zc w R
     · obtain rfl:r=false:=Bool.eq_false_iff.2 (fun h=>ic (hr.1 h).2.2)
       exact right3_2 a b c ia ib ic za zb zc w R
   · obtain rfl:r=false:=Bool.eq_false_iff.2 (fun h=>ib (hr.1 h).2.1)
     exact right3_1 a b c ia ib za zb zc w R
 · obtain rfl:r=false:=Bool.eq_false_iff.2 (fun h=>ia (hr.1 h).1)
   exact right3_0 a b c ia za zb zc w R
theorem right2_0  (a b:ByteArray) (ia:¬ IsRat a.data.toList) (za:a.size≤100000) (_zb:b.size≤100000) (w:World) (R:EnvV w) :
   Calls Tryz.prog 68 #[.agg #[.string a,.string b]] w (Ret w (.bool false)):=by
 have c1:=fun (w:World) (R:EnvV w)=>refRRight_any a false ⟨(fun h=>by cases h),fun h=>absurd h ia⟩ za w R.toEnvR
 have C1:=Lib.hid c1
 clear c1 ia za _zb
 have hb:=Below.refl w.heap.size w
 go_enter Tryz.func68,Tryz.ntmps68
 go_upto_region 1 with fail
 refine wp_alloc1 (fun w1 a0 hk=>?_)
 replace hb:=hb.trans (hk.mono hb.size)
 clear hk
 obtain ⟨Aa,Ab⟩:=ce2 a0
 go_wp2_with (go_at_call 28;with_reducible refine (chVB hb R C1).mono ?_;clear hb;rintro e w1 ⟨rfl,hk,hb⟩;clear Aa Ab;replace a0:=zB hk a0;obtain ⟨Aa,Ab⟩:=ce2 a0;clear hk)
 first | go_ret | go_ret2 | go_ret3
 exact ⟨rfl,hb⟩
theorem right2_1  (a b:ByteArray) (ia:IsRat a.data.toList) (ib:¬ IsRat b.data.toList) (za:a.size≤100000) (zb:b.size≤100000) (w:World) (R:EnvV w) :
   Calls Tryz.prog 68 #[.agg #[.string a,.string b]] w (Ret w (.bool false)):=by
 have c1:CV 28 #[.string a] (.bool true):=fun w R=>refRRight_any a true ⟨fun _=>ia,fun _=>rfl⟩ za w R.toEnvR
 have c2:=fun (w:World) (R:EnvV w)=>refRRight_any b false ⟨(fun h=>by cases h),fun h=>absurd h ib⟩ zb w R.toEnvR
 have C1:=Lib.hid c1
 have C2:=Lib.hid c2
 clear c1 c2 ia ib za zb
 have hb:=Below.refl w.heap.size w
 go_enter Tryz.func68,Tryz.ntmps68
 go_upto_region 1 with fail
 refine wp_alloc1 (fun w1 a0 hk=>?_)
 replace hb:=hb.trans (hk.mono hb.size)
 clear hk
 obtain ⟨Aa,Ab⟩:=ce2 a0
 go_wp2_with ((go_at_call 28;first | with_reducible refine (chVB hb R C1).mono ?_ | with_reducible refine (chVB hb R C2).mono ?_);clear hb;rintro e w1 ⟨rfl,hk,hb⟩;clear Aa Ab;replace a0:=zB hk a0;obtain ⟨Aa,Ab⟩:=ce2 a0;clear hk)
 first | go_ret | go_ret2 | go_ret3
 exact ⟨rfl,hb⟩
theorem right2_2  (a b:ByteArray) (ia:IsRat a.data.toList) (ib:IsRat b.data.toList) (za:a.size≤100000) (zb:b.size≤100000) (w:World) (R:EnvV w) :
   Calls Tryz.prog 68 #[.agg #[.string a,.string b]] w (Ret w (.bool true)):=by
 have c1:CV 28 #[.string a] (.bool true):=fun w R=>refRRight_any a true ⟨fun _=>ia,fun _=>rfl⟩ za w R.toEnvR
 have c2:CV 28 #[.string b] (.bool true):=fun w R=>refRRight_any b true ⟨fun _=>ib,fun _=>rfl⟩ zb w R.toEnvR
 have C1:=Lib.hid c1
 have C2:=Lib.hid c2
 clear c1 c2 ia ib za zb
 have hb:=Below.refl w.heap.size w
 go_enter Tryz.func68,Tryz.ntmps68
 go_upto_region 1 with fail
 refine wp_alloc1 (fun w1 a0 hk=>?_)
 replace hb:=hb.trans (hk.mono hb.size)
 clear hk
 obtain ⟨Aa,Ab⟩:=ce2 a0
 go_wp2_with ((go_at_call 28;first | with_reducible refine (chVB hb R C1).mono ?_ | with_reducible refine (chVB hb R C2).mono ?_);clear hb;rintro e w1 ⟨rfl,hk,hb⟩;clear Aa Ab;replace a0:=zB hk a0;obtain ⟨Aa,Ab⟩:=ce2 a0;clear hk)
 first | go_ret | go_ret2 | go_ret3
 exact ⟨rfl,hb⟩
theorem right2_raw (a b:ByteArray) (r:Bool) (hr:r=true↔(IsRat a.data.toList∧IsRat b.data.toList)) (za:a.size≤100000) (zb:b.size≤100000) (w:World) (R:EnvV w) :
   Calls Tryz.prog 68 #[.agg #[.string a,.string b]] w (Ret w (.bool r)):=by
 by_cases ia:IsRat a.data.toList
 · skip
   by_cases ib:IsRat b.data.toList
   · skip
     obtain rfl:r=true:=hr.2 ⟨ia,ib⟩
     exact right2_2 a b ia ib za zb w R
   · obtain rfl:r=false:=Bool.eq_false_iff.2 (fun h=>ib (hr.1 h).2)
     exact right2_1 a b ia ib za zb w R
 · obtain rfl:r=false:=Bool.eq_false_iff.2 (fun h=>ia (hr.1 h).1)
   exact right2_0 a b ia za zb w R
theorem of3_t  (a b c:ByteArray) (h:(IsRat a.data.toList∧IsRat b.data.toList∧IsRat c.data.toList)) (za:a.size≤100000) (zb:b.size≤100000) (zc:c.size≤100000) (w:World) (R:EnvV w) :
   Calls Tryz.prog 16 #[.agg #[.string a,.string b,.string c]] w (Ret w (.int .i64 0)):=by
 have c1:CV 40 #[.agg #[.string a,.string b,.string c]] (.bool true):=fun w R=>right3_raw a b c true ⟨fun _=>h,fun _=>rfl⟩ za zb zc w R
 have C1:=Lib.hid c1
 clear c1 h za zb zc
 have hb:=Below.refl w.heap.size w
 go_enter Tryz.func16,Tryz.ntmps16
 go_upto_region 1 with fail
 refine wp_alloc1 (fun w1 a0 hk=>?_)
 replace hb:=hb.trans (hk.mono hb.size)
 clear hk
 obtain ⟨Aa,Ab,Ac⟩:=ce3 a0
 go_wp2_with (go_at_call 40;with_reducible refine (chVB hb R C1).mono ?_;clear hb;rintro e w1 ⟨rfl,hk,hb⟩;clear Aa Ab Ac;replace a0:=zB hk a0;obtain ⟨Aa,Ab,Ac⟩:=ce3 a0;clear hk)
 first | go_ret | go_ret2 | go_ret3
 exact ⟨rfl,hb⟩
theorem of3_f  (a b c:ByteArray) (h:¬ (IsRat a.data.toList∧IsRat b.data.toList∧IsRat c.data.toList)) (za:a.size≤100000) (zb:b.size≤100000) (zc:c.size≤100000) (w:World) (R:EnvV w) :
   Calls Tryz.prog 16 #[.agg #[.string a,.string b,.string c]] w (Ret w (.int .i64 2)):=by
 have c1:=right3_raw a b c false ⟨(fun h=>by cases h),fun k=>absurd k h⟩ za zb zc
 have C1:=Lib.hid c1
 clear c1 h za zb zc
 have hb:=Below.refl w.heap.size w
 go_enter Tryz.func16,Tryz.ntmps16
 go_upto_region 1 with fail
 refine wp_alloc1 (fun w1 a0 hk=>?_)
 replace hb:=hb.trans (hk.mono hb.size)
 clear hk
 obtain ⟨Aa,Ab,Ac⟩:=ce3 a0
 go_wp2_with (go_at_call 40;with_reducible refine (chVB hb R C1).mono ?_;clear hb;rintro e w1 ⟨rfl,hk,hb⟩;clear Aa Ab Ac;replace a0:=zB hk a0;obtain ⟨Aa,Ab,Ac⟩:=ce3 a0;clear hk)
 first | go_ret | go_ret2 | go_ret3
 exact ⟨rfl,hb⟩
theorem of3_raw (a b c:ByteArray) (v:Int) (h0:(IsRat a.data.toList∧IsRat b.data.toList∧IsRat c.data.toList)→v=0) (h2:¬ (IsRat a.data.toList∧IsRat b.data.toList∧IsRat c.data.toList)→v=2) (za:a.size≤100000) (zb:b.size≤100000) (zc:c.size≤100000) (w:World) (R:EnvV w) :
   Calls Tryz.prog 16 #[.agg #[.string a,.string b,.string c]] w (Ret w (.int .i64 v)):=by
 by_cases h:IsRat a.data.toList∧IsRat b.data.toList∧IsRat c.data.toList
 · obtain rfl:=h0 h
   exact of3_t a b c h za zb zc w R
 · obtain rfl:=h2 h
   exact of3_f a b c h za zb zc w R
theorem of2_t  (a b:ByteArray) (h:(IsRat a.data.toList∧IsRat b.data.toList)) (za:a.size≤100000) (zb:b.size≤100000) (w:World) (R:EnvV w) :
   Calls Tryz.prog 18 #[.agg #[.string a,.string b]] w (Ret w (.int .i64 0)):=by
 have c1:CV 68 #[.agg #[.string a,.string b]] (.bool true):=fun w R=>right2_raw a b true ⟨fun _=>h,fun _=>rfl⟩ za zb w R
 have C1:=Lib.hid c1
 clear c1 h za zb
 have hb:=Below.refl w.heap.size w
 go_enter Tryz.func18,Tryz.ntmps18
 go_upto_region 1 with fail
 refine wp_alloc1 (fun w1 a0 hk=>?_)
 replace hb:=hb.trans (hk.mono hb.size)
 clear hk
 obtain ⟨Aa,Ab⟩:=ce2 a0
 go_wp2_with (go_at_call 68;with_reducible refine (chVB hb R C1).mono ?_;clear hb;rintro e w1 ⟨rfl,hk,hb⟩;clear Aa Ab;replace a0:=zB hk a0;obtain ⟨Aa,Ab⟩:=ce2 a0;clear hk)
 first | go_ret | go_ret2 | go_ret3
 exact ⟨rfl,hb⟩
theorem of2_f  (a b:ByteArray) (h:¬ (IsRat a.data.toList∧IsRat b.data.toList)) (za:a.size≤100000) (zb:b.size≤100000) (w:World) (R:EnvV w) :
   Calls Tryz.prog 18 #[.agg #[.string a,.string b]] w (Ret w (.int .i64 2)):=by
 have c1:=right2_raw a b false ⟨(fun h=>by cases h),fun k=>absurd k h⟩ za zb
 have C1:=Lib.hid c1
 clear c1 h za zb
 have hb:=Below.refl w.heap.size w
 go_enter Tryz.func18,Tryz.ntmps18
 go_upto_region 1 with fail
 refine wp_alloc1 (fun w1 a0 hk=>?_)
 replace hb:=hb.trans (hk.mono hb.size)
 clear hk
 obtain ⟨Aa,Ab⟩:=ce2 a0
 go_wp2_with (go_at_call 68;with_reducible refine (chVB hb R C1).mono ?_;clear hb;rintro e w1 ⟨rfl,hk,hb⟩;clear Aa Ab;replace a0:=zB hk a0;obtain ⟨Aa,Ab⟩:=ce2 a0;clear hk)
 first | go_ret | go_ret2 | go_ret3
 exact ⟨rfl,hb⟩
theorem of2_raw (a b:ByteArray) (v:Int) (h0:(IsRat a.data.toList∧IsRat b.data.toList)→v=0) (h2:¬ (IsRat a.data.toList∧IsRat b.data.toList)→v=2) (za:a.size≤100000) (zb:b.size≤100000) (w:World) (R:EnvV w) :
   Calls Tryz.prog 18 #[.agg #[.string a,.string b]] w (Ret w (.int .i64 v)):=by
 by_cases h:IsRat a.data.toList∧IsRat b.data.toList
 · obtain rfl:=h0 h
   exact of2_t a b h za zb w R
 · obtain rfl:=h2 h
   exact of2_f a b h za zb w R
theorem handle_err  (ta0 ta1 ta2 tb0 tb1 tb2:ByteArray) (op:Value) (ea eb v:Int) (ca:CV 15 #[.agg #[.string ta0,.string ta1,.string ta2]] (.int .i64 ea)) (cb:CV 15 #[.agg #[.string tb0,.string tb1,.string tb2]] (.int .i64 eb)) (hv:firstNZ [ea,eb]=v) (q0:v≠0) (w:World) (R:EnvV w) :
   Calls Tryz.prog 71 #[.agg #[.string ta0,.string ta1,.string ta2],.agg #[.string tb0,.string tb1,.string tb2],op] w (Ret w (.tuple #[.agg #[.string ⟨#[]⟩,.string ⟨#[]⟩,.string ⟨#[]⟩],.int .i64 v])):=by
 have c1:=ca
 have c2:=cb
 have c3:=fun (w:World) (R:EnvV w)=>orErr2 ea eb v hv w R.toEnvR
 have eq0:(v == 0)=false:=beq_eq_false_iff_ne.2 q0
 have pq0:¬ v=0:=q0
 have C1:=Lib.hid c1
 have C2:=Lib.hid c2
 have C3:=Lib.hid c3
 clear c1 c2 c3 q0 ca cb hv
 have hb:=Below.refl w.heap.size w
 go_enter Tryz.func71,Tryz.ntmps71
 go_upto_region 1 with fail
 refine wp_alloc3 (fun w1 a0 a1 a2 hk=>?_)
 replace hb:=hb.trans (hk.mono hb.size)
 clear hk
 obtain ⟨Ad,Ae,Af⟩:=ce3 a0
 obtain ⟨Ag,Ah,Ai⟩:=ce3 a1
 obtain ⟨Aa,Aj,Ab,Ak,Ac,Al⟩:=cf3 a2
 go_upto_region 1 with fail
 obtain ⟨Ao,Ap,Aq⟩:=cy3 a0
 obtain ⟨Ar,As,At⟩:=cy3 a1
 obtain ⟨Au,Av,Aw⟩:=cy3 a2
 have Am:=rrV C1 R hb
 have An:=rrV C2 R hb
 refine wp_region_tail_below 4 (by first | assumption | kernel_rfl) (by kernel_rfl) ?_
 simp only [List.take_succ_cons,List.take_zero,List.drop_succ_cons,List.drop_zero]
 repeat (quiet_step (first | (with_reducible exact Am.out _ _) | (with_reducible exact An.out _ _)))
 refine wpQuiet_nil ?_
 intro w1 hw'
 obtain ⟨hk,hb⟩:=zQ hb hw'
 clear Ad Ae Af Ag Ah Ai Aa Ab Ac Aj Ak Al
 replace a0:=zB hk a0
 replace a1:=zB hk a1
 replace a2:=zB hk a2
 obtain ⟨Ad,Ae,Af⟩:=ce3 a0
 obtain ⟨Ag,Ah,Ai⟩:=ce3 a1
 obtain ⟨Aa,Aj,Ab,Ak,Ac,Al⟩:=cf3 a2
 clear Am An Ao Ap Aq Ar As At Au Av Aw
 clear hk hw'
 go_wp2_with (go_at_call 69;with_reducible refine (zL hb (C3.out _ (R.below hb))).mono ?_;clear hb;rintro e w1 ⟨rfl,hk,hb⟩;clear Ad Ae Af Ag Ah Ai Aa Ab Ac Aj Ak Al;replace a0:=zB hk a0;replace a1:=zB hk a1;replace a2:=zB hk a2;obtain ⟨Ad,Ae,Af⟩:=ce3 a0;obtain ⟨Ag,Ah,Ai⟩:=ce3 a1;obtain ⟨Aa,Aj,Ab,Ak,Ac,Al⟩:=cf3 a2;clear hk)
 refine bodyPost_ret (v:=.tuple #[.agg #[.string ⟨#[]⟩,.string ⟨#[]⟩,.string ⟨#[]⟩],.int .i64 v]) (by simp [results,Tryz.results71,go_sem,Aa,Ab,Ac]) rfl ⟨rfl,?_⟩
 repeat' (first | exact hb | refine Below.setCell ?_ (by first | exact Nat.le_refl _ | (dsimp only;omega)) _)
theorem dot_err  (ta0 ta1 ta2 tb0 tb1 tb2:ByteArray) (ea eb v:Int) (ca:CV 15 #[.agg #[.string ta0,.string ta1,.string ta2]] (.int .i64 ea)) (cb:CV 15 #[.agg #[.string tb0,.string tb1,.string tb2]] (.int .i64 eb)) (hv:firstNZ [ea,eb]=v) (q0:v≠0) (w:World) (R:EnvV w) :
   Calls Tryz.prog 24 #[.agg #[.string ta0,.string ta1,.string ta2],.agg #[.string tb0,.string tb1,.string tb2]] w (Ret w (.tuple #[.string ⟨#[]⟩,.int .i64 v])):=by
 have c1:=ca
 have c2:=cb
 have c3:=fun (w:World) (R:EnvV w)=>orErr2 ea eb v hv w R.toEnvR
 have eq0:(v == 0)=false:=beq_eq_false_iff_ne.2 q0
 have pq0:¬ v=0:=q0
 have C1:=Lib.hid c1
 have C2:=Lib.hid c2
 have C3:=Lib.hid c3
 clear c1 c2 c3 q0 ca cb hv
 have hb:=Below.refl w.heap.size w
 go_enter Tryz.func24,Tryz.ntmps24
 go_upto_region 1 with fail
 refine wp_alloc2 (fun w1 a0 a1 hk=>?_)
 replace hb:=hb.trans (hk.mono hb.size)
 clear hk
 obtain ⟨Aa,Ab,Ac⟩:=ce3 a0
 obtain ⟨Ad,Ae,Af⟩:=ce3 a1
 go_upto_region 1 with fail
 obtain ⟨Ai,Aj,Ak⟩:=cy3 a0
 obtain ⟨Al,Am,An⟩:=cy3 a1
 have Ag:=rrV C1 R hb
 have Ah:=rrV C2 R hb
 refine wp_region_tail_below 4 (by first | assumption | kernel_rfl) (by kernel_rfl) ?_
 simp only [List.take_succ_cons,List.take_zero,List.drop_succ_cons,List.drop_zero]
 repeat (quiet_step (first | (with_reducible exact Ag.out _ _) | (with_reducible exact Ah.out _ _)))
 refine wpQuiet_nil ?_
 intro w1 hw'
 obtain ⟨hk,hb⟩:=zQ hb hw'
 clear Aa Ab Ac Ad Ae Af
 replace a0:=zB hk a0
 replace a1:=zB hk a1
 obtain ⟨Aa,Ab,Ac⟩:=ce3 a0
 obtain ⟨Ad,Ae,Af⟩:=ce3 a1
 clear Ag Ah Ai Aj Ak Al Am An
 clear hk hw'
 go_wp2_with (go_at_call 69;with_reducible refine (zL hb (C3.out _ (R.below hb))).mono ?_;clear hb;rintro e w1 ⟨rfl,hk,hb⟩;clear Aa Ab Ac Ad Ae Af;replace a0:=zB hk a0;replace a1:=zB hk a1;obtain ⟨Aa,Ab,Ac⟩:=ce3 a0;obtain ⟨Ad,Ae,Af⟩:=ce3 a1;clear hk)
 first | go_ret | go_ret2 | go_ret3
 exact ⟨rfl,hb⟩
theorem cross_err  (ta0 ta1 ta2 tb0 tb1 tb2:ByteArray) (ea eb v:Int) (ca:CV 15 #[.agg #[.string ta0,.string ta1,.string ta2]] (.int .i64 ea)) (cb:CV 15 #[.agg #[.string tb0,.string tb1,.string tb2]] (.int .i64 eb)) (hv:firstNZ [ea,eb]=v) (q0:v≠0) (w:World) (R:EnvV w) :
   Calls Tryz.prog 25 #[.agg #[.string ta0,.string ta1,.string ta2],.agg #[.string tb0,.string tb1,.string tb2]] w (Ret w (.tuple #[.agg #[.string ⟨#[]⟩,.string ⟨#[]⟩,.string ⟨#[]⟩],.int .i64 v])):=by
 have c1:=ca
 have c2:=cb
 have c3:=fun (w:World) (R:EnvV w)=>orErr2 ea eb v hv w R.toEnvR
 have eq0:(v == 0)=false:=beq_eq_false_iff_ne.2 q0
 have pq0:¬ v=0:=q0
 have C1:=Lib.hid c1
 have C2:=Lib.hid c2
 have C3:=Lib.hid c3
 clear c1 c2 c3 q0 ca cb hv
 have hb:=Below.refl w.heap.size w
 go_enter Tryz.func25,Tryz.ntmps25
 go_upto_region 1 with fail
 refine wp_alloc3 (fun w1 a0 a1 a2 hk=>?_)
 replace hb:=hb.trans (hk.mono hb.size)
 clear hk
 obtain ⟨Ad,Ae,Af⟩:=ce3 a0
 obtain ⟨Ag,Ah,Ai⟩:=ce3 a1
 obtain ⟨Aa,Aj,Ab,Ak,Ac,Al⟩:=cf3 a2
 go_upto_region 1 with fail
 obtain ⟨Ao,Ap,Aq⟩:=cy3 a0
 obtain ⟨Ar,As,At⟩:=cy3 a1
 obtain ⟨Au,Av,Aw⟩:=cy3 a2
 have Am:=rrV C1 R hb
 have An:=rrV C2 R hb
 refine wp_region_tail_below 4 (by first | assumption | kernel_rfl) (by kernel_rfl) ?_
 simp only [List.take_succ_cons,List.take_zero,List.drop_succ_cons,List.drop_zero]
 repeat (quiet_step (first | (with_reducible exact Am.out _ _) | (with_reducible exact An.out _ _)))
 refine wpQuiet_nil ?_
 intro w1 hw'
 obtain ⟨hk,hb⟩:=zQ hb hw'
 clear Ad Ae Af Ag Ah Ai Aa Ab Ac Aj Ak Al
 replace a0:=zB hk a0
 replace a1:=zB hk a1
 replace a2:=zB hk a2
 obtain ⟨Ad,Ae,Af⟩:=ce3 a0
 obtain ⟨Ag,Ah,Ai⟩:=ce3 a1
 obtain ⟨Aa,Aj,Ab,Ak,Ac,Al⟩:=cf3 a2
 clear Am An Ao Ap Aq Ar As At Au Av Aw
 clear hk hw'
 go_wp2_with (go_at_call 69;with_reducible refine (zL hb (C3.out _ (R.below hb))).mono ?_;clear hb;rintro e w1 ⟨rfl,hk,hb⟩;clear Ad Ae Af Ag Ah Ai Aa Ab Ac Aj Ak Al;replace a0:=zB hk a0;replace a1:=zB hk a1;replace a2:=zB hk a2;obtain ⟨Ad,Ae,Af⟩:=ce3 a0;obtain ⟨Ag,Ah,Ai⟩:=ce3 a1;obtain ⟨Aa,Aj,Ab,Ak,Ac,Al⟩:=cf3 a2;clear hk)
 refine bodyPost_ret (v:=.tuple #[.agg #[.string ⟨#[]⟩,.string ⟨#[]⟩,.string ⟨#[]⟩],.int .i64 v]) (by simp [results,Tryz.results25,go_sem,Aa,Ab,Ac]) rfl ⟨rfl,?_⟩
 repeat' (first | exact hb | refine Below.setCell ?_ (by first | exact Nat.le_refl _ | (dsimp only;omega)) _)
theorem parallel_err  (ta0 ta1 ta2 tb0 tb1 tb2:ByteArray) (ea eb v:Int) (ca:CV 15 #[.agg #[.string ta0,.string ta1,.string ta2]] (.int .i64 ea)) (cb:CV 15 #[.agg #[.string tb0,.string tb1,.string tb2]] (.int .i64 eb)) (hv:firstNZ [ea,eb]=v) (q0:v≠0) (w:World) (R:EnvV w) :
   Calls Tryz.prog 26 #[.agg #[.string ta0,.string ta1,.string ta2],.agg #[.string tb0,.string tb1,.string tb2]] w (Ret w (.tuple #[.bool false,.int .i64 v])):=by
 have c1:=ca
 have c2:=cb
 have c3:=fun (w:World) (R:EnvV w)=>orErr2 ea eb v hv w R.toEnvR
 have eq0:(v == 0)=false:=beq_eq_false_iff_ne.2 q0
 have pq0:¬ v=0:=q0
 have C1:=Lib.hid c1
 have C2:=Lib.hid c2
 have C3:=Lib.hid c3
 clear c1 c2 c3 q0 ca cb hv
 have hb:=Below.refl w.heap.size w
 go_enter Tryz.func26,Tryz.ntmps26
 go_upto_region 1 with fail
 refine wp_alloc2 (fun w1 a0 a1 hk=>?_)
 replace hb:=hb.trans (hk.mono hb.size)
 clear hk
 obtain ⟨Aa,Ab,Ac⟩:=ce3 a0
 obtain ⟨Ad,Ae,Af⟩:=ce3 a1
 go_upto_region 1 with fail
 obtain ⟨Ai,Aj,Ak⟩:=cy3 a0
 obtain ⟨Al,Am,An⟩:=cy3 a1
 have Ag:=rrV C1 R hb
 have Ah:=rrV C2 R hb
 refine wp_region_tail_below 4 (by first | assumption | kernel_rfl) (by kernel_rfl) ?_
 simp only [List.take_succ_cons,List.take_zero,List.drop_succ_cons,List.drop_zero]
 repeat (quiet_step (first | (with_reducible exact Ag.out _ _) | (with_reducible exact Ah.out _ _)))
 refine wpQuiet_nil ?_
 intro w1 hw'
 obtain ⟨hk,hb⟩:=zQ hb hw'
 clear Aa Ab Ac Ad Ae Af
 replace a0:=zB hk a0
 replace a1:=zB hk a1
 obtain ⟨Aa,Ab,Ac⟩:=ce3 a0
 obtain ⟨Ad,Ae,Af⟩:=ce3 a1
 clear Ag Ah Ai Aj Ak Al Am An
 clear hk hw'
 go_wp2_with (go_at_call 69;with_reducible refine (zL hb (C3.out _ (R.below hb))).mono ?_;clear hb;rintro e w1 ⟨rfl,hk,hb⟩;clear Aa Ab Ac Ad Ae Af;replace a0:=zB hk a0;replace a1:=zB hk a1;obtain ⟨Aa,Ab,Ac⟩:=ce3 a0;obtain ⟨Ad,Ae,Af⟩:=ce3 a1;clear hk)
 first | go_ret | go_ret2 | go_ret3
 exact ⟨rfl,hb⟩
theorem add_err  (ta0 ta1 ta2 tb0 tb1 tb2:ByteArray) (ea eb v:Int) (ca:CV 15 #[.agg #[.string ta0,.string ta1,.string ta2]] (.int .i64 ea)) (cb:CV 15 #[.agg #[.string tb0,.string tb1,.string tb2]] (.int .i64 eb)) (hv:firstNZ [ea,eb]=v) (q0:v≠0) (w:World) (R:EnvV w) :
   Calls Tryz.prog 22 #[.agg #[.string ta0,.string ta1,.string ta2],.agg #[.string tb0,.string tb1,.string tb2]] w (Ret w (.tuple #[.agg #[.string ⟨#[]⟩,.string ⟨#[]⟩,.string ⟨#[]⟩],.int .i64 v])):=by
 have c1:=handle_err ta0 ta1 ta2 tb0 tb1 tb2 (Value.func (Fn.func 72) #[] #[]) ea eb v ca cb hv q0
 have eq0:(v == 0)=false:=beq_eq_false_iff_ne.2 q0
 have pq0:¬ v=0:=q0
 have C1:=Lib.hid c1
 clear c1 q0 ca cb hv
 have hb:=Below.refl w.heap.size w
 go_enter Tryz.func22,Tryz.ntmps22
 go_upto_region 1 with fail
 refine wp_alloc3 (fun w1 a0 a1 a2 hk=>?_)
 replace hb:=hb.trans (hk.mono hb.size)
 clear hk
 obtain ⟨Ad,Ae,Af⟩:=ce3 a0
 obtain ⟨Ag,Ah,Ai⟩:=ce3 a1
 obtain ⟨Aa,Aj,Ab,Ak,Ac,Al⟩:=cf3 a2
 go_wp2_with (go_at_call 71;with_reducible refine (chVB hb R C1).mono ?_;clear hb;rintro e w1 ⟨rfl,hk,hb⟩;clear Ad Ae Af Ag Ah Ai Aa Ab Ac Aj Ak Al;replace a0:=zB hk a0;replace a1:=zB hk a1;replace a2:=zB hk a2;obtain ⟨Ad,Ae,Af⟩:=ce3 a0;obtain ⟨Ag,Ah,Ai⟩:=ce3 a1;obtain ⟨Aa,Aj,Ab,Ak,Ac,Al⟩:=cf3 a2;clear hk)
 refine bodyPost_ret (v:=.tuple #[.agg #[.string ⟨#[]⟩,.string ⟨#[]⟩,.string ⟨#[]⟩],.int .i64 v]) (by simp [results,Tryz.results22,go_sem,Aa,Ab,Ac]) rfl ⟨rfl,?_⟩
 repeat' (first | exact hb | refine Below.setCell ?_ (by first | exact Nat.le_refl _ | (dsimp only;omega)) _)
theorem sub_err  (ta0 ta1 ta2 tb0 tb1 tb2:ByteArray) (ea eb v:Int) (ca:CV 15 #[.agg #[.string ta0,.string ta1,.string ta2]] (.int .i64 ea)) (cb:CV 15 #[.agg #[.string tb0,.string tb1,.string tb2]] (.int .i64 eb)) (hv:firstNZ [ea,eb]=v) (q0:v≠0) (w:World) (R:EnvV w) :
   Calls Tryz.prog 23 #[.agg #[.string ta0,.string ta1,.string ta2],.agg #[.string tb0,.string tb1,.string tb2]] w (Ret w (.tuple #[.agg #[.string ⟨#[]⟩,.string ⟨#[]⟩,.string ⟨#[]⟩],.int .i64 v])):=by
 have c1:=handle_err ta0 ta1 ta2 tb0 tb1 tb2 (Value.func (Fn.func 73) #[] #[]) ea eb v ca cb hv q0
 have eq0:(v == 0)=false:=beq_eq_false_iff_ne.2 q0
 have pq0:¬ v=0:=q0
 have C1:=Lib.hid c1
 clear c1 q0 ca cb hv
 have hb:=Below.refl w.heap.size w
 go_enter Tryz.func23,Tryz.ntmps23
 go_upto_region 1 with fail
 refine wp_alloc3 (fun w1 a0 a1 a2 hk=>?_)
 replace hb:=hb.trans (hk.mono hb.size)
 clear hk
 obtain ⟨Ad,Ae,Af⟩:=ce3 a0
 obtain ⟨Ag,Ah,Ai⟩:=ce3 a1
 obtain ⟨Aa,Aj,Ab,Ak,Ac,Al⟩:=cf3 a2
 go_wp2_with (go_at_call 71;with_reducible refine (chVB hb R C1).mono ?_;clear hb;rintro e w1 ⟨rfl,hk,hb⟩;clear Ad Ae Af Ag Ah Ai Aa Ab Ac Aj Ak Al;replace a0:=zB hk a0;replace a1:=zB hk a1;replace a2:=zB hk a2;obtain ⟨Ad,Ae,Af⟩:=ce3 a0;obtain ⟨Ag,Ah,Ai⟩:=ce3 a1;obtain ⟨Aa,Aj,Ab,Ak,Ac,Al⟩:=cf3 a2;clear hk)
 refine bodyPost_ret (v:=.tuple #[.agg #[.string ⟨#[]⟩,.string ⟨#[]⟩,.string ⟨#[]⟩],.int .i64 v]) (by simp [results,Tryz.results23,go_sem,Aa,Ab,Ac]) rfl ⟨rfl,?_⟩
 repeat' (first | exact hb | refine Below.setCell ?_ (by first | exact Nat.le_refl _ | (dsimp only;omega)) _)
theorem scale_err  (ta0 ta1 ta2 k:ByteArray) (ea eb v:Int) (ca:CV 15 #[.agg #[.string ta0,.string ta1,.string ta2]] (.int .i64 ea)) (cb:CV 15 #[.agg #[.string k,.string k,.string k]] (.int .i64 eb)) (hv:firstNZ [ea,eb]=v) (q0:v≠0) (w:World) (R:EnvV w) :
   Calls Tryz.prog 29 #[.agg #[.string ta0,.string ta1,.string ta2],.string k] w (Ret w (.tuple #[.agg #[.string ⟨#[]⟩,.string ⟨#[]⟩,.string ⟨#[]⟩],.int .i64 v])):=by
 have c1:=handle_err ta0 ta1 ta2 k k k (Value.func (Fn.func 84) #[] #[]) ea eb v ca cb hv q0
 have eq0:(v == 0)=false:=beq_eq_false_iff_ne.2 q0
 have pq0:¬ v=0:=q0
 have C1:=Lib.hid c1
 clear c1 q0 ca cb hv
 have hb:=Below.refl w.heap.size w
 go_enter Tryz.func29,Tryz.ntmps29
 go_upto_region 1 with fail
 refine wp_alloc2 (fun w1 a0 a1 hk=>?_)
 replace hb:=hb.trans (hk.mono hb.size)
 clear hk
 obtain ⟨Ad,Ae,Af⟩:=ce3 a0
 obtain ⟨Aa,Ag,Ab,Ah,Ac,Ai⟩:=cf3 a1
 go_wp2_with (go_at_call 71;with_reducible refine (chVB hb R C1).mono ?_;clear hb;rintro e w1 ⟨rfl,hk,hb⟩;clear Ad Ae Af Aa Ab Ac Ag Ah Ai;replace a0:=zB hk a0;replace a1:=zB hk a1;obtain ⟨Ad,Ae,Af⟩:=ce3 a0;obtain ⟨Aa,Ag,Ab,Ah,Ac,Ai⟩:=cf3 a1;clear hk)
 refine bodyPost_ret (v:=.tuple #[.agg #[.string ⟨#[]⟩,.string ⟨#[]⟩,.string ⟨#[]⟩],.int .i64 v]) (by simp [results,Tryz.results29,go_sem,Aa,Ab,Ac]) rfl ⟨rfl,?_⟩
 repeat' (first | exact hb | refine Below.setCell ?_ (by first | exact Nat.le_refl _ | (dsimp only;omega)) _)
theorem plane_err  (ta0 ta1 ta2 k:ByteArray) (ea eb v:Int) (ca:CV 15 #[.agg #[.string ta0,.string ta1,.string ta2]] (.int .i64 ea)) (cb:CV 70 #[.string k] (.int .i64 eb)) (hv:firstNZ [ea,eb]=v) (q0:v≠0) (w:World) (R:EnvV w) :
   Calls Tryz.prog 19 #[.agg #[.string ta0,.string ta1,.string ta2,.string k]] w (Ret w (.int .i64 v)):=by
 have c1:=ca
 have c2:=cb
 have c3:=fun (w:World) (R:EnvV w)=>orErr2 ea eb v hv w R.toEnvR
 have eq0:(v == 0)=false:=beq_eq_false_iff_ne.2 q0
 have pq0:¬ v=0:=q0
 have C1:=Lib.hid c1
 have C2:=Lib.hid c2
 have C3:=Lib.hid c3
 clear c1 c2 c3 q0 ca cb hv
 have hb:=Below.refl w.heap.size w
 go_enter Tryz.func19,Tryz.ntmps19
 go_upto_region 1 with fail
 refine wp_alloc1 (fun w1 a0 hk=>?_)
 replace hb:=hb.trans (hk.mono hb.size)
 clear hk
 obtain ⟨Aa,Ab,Ac,Ad⟩:=ce4 a0
 go_upto_region 1 with fail
 obtain ⟨Ag,Ah,Ai,Aj⟩:=cy4 a0
 have Ae:=rrV C1 R hb
 have Af:=rrV C2 R hb
 refine wp_region_tail_below 6 (by first | assumption | kernel_rfl) (by kernel_rfl) ?_
 simp only [List.take_succ_cons,List.take_zero,List.drop_succ_cons,List.drop_zero]
 repeat (quiet_step (first | (with_reducible exact Ae.out _ _) | (with_reducible exact Af.out _ _)))
 refine wpQuiet_nil ?_
 intro w1 hw'
 obtain ⟨hk,hb⟩:=zQ hb hw'
 clear Aa Ab Ac Ad
 replace a0:=zB hk a0
 obtain ⟨Aa,Ab,Ac,Ad⟩:=ce4 a0
 clear Ae Af Ag Ah Ai Aj
 clear hk hw'
 go_wp2_with (go_at_call 69;with_reducible refine (zL hb (C3.out _ (R.below hb))).mono ?_;clear hb;rintro e w1 ⟨rfl,hk,hb⟩;clear Aa Ab Ac Ad;replace a0:=zB hk a0;obtain ⟨Aa,Ab,Ac,Ad⟩:=ce4 a0;clear hk)
 first | go_ret | go_ret2 | go_ret3
 exact ⟨rfl,hb⟩
theorem side_err  (ta0 ta1 ta2 k tb0 tb1 tb2:ByteArray) (ea eb v:Int) (ca:CV 19 #[.agg #[.string ta0,.string ta1,.string ta2,.string k]] (.int .i64 ea)) (cb:CV 15 #[.agg #[.string tb0,.string tb1,.string tb2]] (.int .i64 eb)) (hv:firstNZ [ea,eb]=v) (q0:v≠0) (w:World) (R:EnvV w) :
   Calls Tryz.prog 27 #[.agg #[.string ta0,.string ta1,.string ta2,.string k],.agg #[.string tb0,.string tb1,.string tb2]] w (Ret w (.tuple #[.int .i64 0,.int .i64 v])):=by
 have c1:=ca
 have c2:=cb
 have c3:=fun (w:World) (R:EnvV w)=>orErr2 ea eb v hv w R.toEnvR
 have eq0:(v == 0)=false:=beq_eq_false_iff_ne.2 q0
 have pq0:¬ v=0:=q0
 have C1:=Lib.hid c1
 have C2:=Lib.hid c2
 have C3:=Lib.hid c3
 clear c1 c2 c3 q0 ca cb hv
 have hb:=Below.refl w.heap.size w
 go_enter Tryz.func27,Tryz.ntmps27
 go_upto_region 1 with fail
 refine wp_alloc2 (fun w1 a0 a1 hk=>?_)
 replace hb:=hb.trans (hk.mono hb.size)
 clear hk
 obtain ⟨Aa,Ab,Ac,Ad⟩:=ce4 a0
 obtain ⟨Ae,Af,Ag⟩:=ce3 a1
 go_upto_region 1 with fail
 obtain ⟨Aj,Ak,Al,Am⟩:=cy4 a0
 obtain ⟨An,Ao,Ap⟩:=cy3 a1
 have Ah:=rrV C1 R hb
 have Ai:=rrV C2 R hb
 refine wp_region_tail_below 4 (by first | assumption | kernel_rfl) (by kernel_rfl) ?_
 simp only [List.take_succ_cons,List.take_zero,List.drop_succ_cons,List.drop_zero]
 repeat (quiet_step (first | (with_reducible exact Ah.out _ _) | (with_reducible exact Ai.out _ _)))
 refine wpQuiet_nil ?_
 intro w1 hw'
 obtain ⟨hk,hb⟩:=zQ hb hw'
 clear Aa Ab Ac Ad Ae Af Ag
 replace a0:=zB hk a0
 replace a1:=zB hk a1
 obtain ⟨Aa,Ab,Ac,Ad⟩:=ce4 a0
 obtain ⟨Ae,Af,Ag⟩:=ce3 a1
 clear Ah Ai Aj Ak Al Am An Ao Ap
 clear hk hw'
 go_wp2_with (go_at_call 69;with_reducible refine (zL hb (C3.out _ (R.below hb))).mono ?_;clear hb;rintro e w1 ⟨rfl,hk,hb⟩;clear Aa Ab Ac Ad Ae Af Ag;replace a0:=zB hk a0;replace a1:=zB hk a1;obtain ⟨Aa,Ab,Ac,Ad⟩:=ce4 a0;obtain ⟨Ae,Af,Ag⟩:=ce3 a1;clear hk)
 first | go_ret | go_ret2 | go_ret3
 exact ⟨rfl,hb⟩
theorem refPlane_e0  (a b c d:ByteArray) (h:¬ (IsRat a.data.toList∧IsRat b.data.toList∧IsRat c.data.toList)) (za:a.size≤100000) (zb:b.size≤100000) (zc:c.size≤100000) (w:World) (R:EnvV w) :
   Calls Tryz.prog 20 #[.agg #[.string a,.string b,.string c,.string d]] w (Ret w (.int .i64 2)):=by
 have c1:=right3_raw a b c false ⟨(fun h=>by cases h),fun k=>absurd k h⟩ za zb zc
 have C1:=Lib.hid c1
 clear c1 h za zb zc
 have hb:=Below.refl w.heap.size w
 go_enter Tryz.func20,Tryz.ntmps20
 go_upto_region 1 with fail
 refine wp_alloc1 (fun w1 a0 hk=>?_)
 replace hb:=hb.trans (hk.mono hb.size)
 clear hk
 obtain ⟨Aa,Ab,Ac,Ad⟩:=ce4 a0
 go_wp2_with (go_at_call 40;with_reducible refine (chVB hb R C1).mono ?_;clear hb;rintro e w1 ⟨rfl,hk,hb⟩;clear Aa Ab Ac Ad;replace a0:=zB hk a0;obtain ⟨Aa,Ab,Ac,Ad⟩:=ce4 a0;clear hk)
 first | go_ret | go_ret2 | go_ret3
 exact ⟨rfl,hb⟩
theorem refPlane_e1  (a b c d:ByteArray) (h:IsRat a.data.toList∧IsRat b.data.toList∧IsRat c.data.toList) (hd:¬ IsRat d.data.toList) (za:a.size≤100000) (zb:b.size≤100000) (zc:c.size≤100000) (zd:d.size≤100000) (w:World) (R:EnvV w) :
   Calls Tryz.prog 20 #[.agg #[.string a,.string b,.string c,.string d]] w (Ret w (.int .i64 2)):=by
 have c1:CV 40 #[.agg #[.string a,.string b,.string c]] (.bool true):=fun w R=>right3_raw a b c true ⟨fun _=>h,fun _=>rfl⟩ za zb zc w R
 have c2:=fun (w:World) (R:EnvV w)=>refRRight_any d false ⟨(fun h=>by cases h),fun k=>absurd k hd⟩ zd w R.toEnvR
 have C1:=Lib.hid c1
 have C2:=Lib.hid c2
 clear c1 c2 h hd za zb zc zd
 have hb:=Below.refl w.heap.size w
 go_enter Tryz.func20,Tryz.ntmps20
 go_upto_region 1 with fail
 refine wp_alloc1 (fun w1 a0 hk=>?_)
 replace hb:=hb.trans (hk.mono hb.size)
 clear hk
 obtain ⟨Aa,Ab,Ac,Ad⟩:=ce4 a0
 go_wp2_with ((first | (go_at_call 40;with_reducible refine (chVB hb R C1).mono ?_) | (go_at_call 28;with_reducible refine (chVB hb R C2).mono ?_));clear hb;rintro e w1 ⟨rfl,hk,hb⟩;clear Aa Ab Ac Ad;replace a0:=zB hk a0;obtain ⟨Aa,Ab,Ac,Ad⟩:=ce4 a0;clear hk)
 first | go_ret | go_ret2 | go_ret3
 exact ⟨rfl,hb⟩
theorem short_0  (a b c:ByteArray) (_sa:40 < a.size) (_za:a.size≤9223372036854775807) (w:World) (_R:EnvV w) :
   Calls Tryz.prog 14 #[.agg #[.string a,.string b,.string c],.int .i64 40] w (Ret w (.bool false)):=by
 have hb:=Below.refl w.heap.size w
 go_enter Tryz.func14,Tryz.ntmps14
 go_upto_region 1 with fail
 refine wp_alloc1 (fun w1 a0 hk=>?_)
 replace hb:=hb.trans (hk.mono hb.size)
 clear hk
 obtain ⟨Aa,Ab,Ac⟩:=ce3 a0
 go_wp2
 first | go_ret | go_ret2 | go_ret3
 exact ⟨rfl,hb⟩
theorem short_1  (a b c:ByteArray) (_sa:a.size≤40) (_sb:40 < b.size) (_zb:b.size≤9223372036854775807) (w:World) (_R:EnvV w) :
   Calls Tryz.prog 14 #[.agg #[.string a,.string b,.string c],.int .i64 40] w (Ret w (.bool false)):=by
 have hb:=Below.refl w.heap.size w
 go_enter Tryz.func14,Tryz.ntmps14
 go_upto_region 1 with fail
 refine wp_alloc1 (fun w1 a0 hk=>?_)
 replace hb:=hb.trans (hk.mono hb.size)
 clear hk
 obtain ⟨Aa,Ab,Ac⟩:=ce3 a0
 go_wp2
 first | go_ret | go_ret2 | go_ret3
 exact ⟨rfl,hb⟩
theorem short_2  (a b c:ByteArray) (_sa:a.size≤40) (_sb:b.size≤40) (sc:40 < c.size) (_zc:c.size≤9223372036854775807) (w:World) (_R:EnvV w) :
   Calls Tryz.prog 14 #[.agg #[.string a,.string b,.string c],.int .i64 40] w (Ret w (.bool false)):=by
 have hb:=Below.refl w.heap.size w
 go_enter Tryz.func14,Tryz.ntmps14
 go_upto_region 1 with fail
 refine wp_alloc1 (fun w1 a0 hk=>?_)
 replace hb:=hb.trans (hk.mono hb.size)
 clear hk
 obtain ⟨Aa,Ab,Ac⟩:=ce3 a0
 go_wp2
 first | go_ret | go_ret2 | go_ret3
 exact ⟨retBo (decide_eq_false (by omega)),hb⟩
theorem short_yes  (a b c:ByteArray) (_sa:a.size≤40) (_sb:b.size≤40) (sc:c.size≤40) (w:World) (_R:EnvV w) :
   Calls Tryz.prog 14 #[.agg #[.string a,.string b,.string c],.int .i64 40] w (Ret w (.bool true)):=by
 have hb:=Below.refl w.heap.size w
 go_enter Tryz.func14,Tryz.ntmps14
 go_upto_region 1 with fail
 refine wp_alloc1 (fun w1 a0 hk=>?_)
 replace hb:=hb.trans (hk.mono hb.size)
 clear hk
 obtain ⟨Aa,Ab,Ac⟩:=ce3 a0
 go_wp2
 first | go_ret | go_ret2 | go_ret3
 exact ⟨retBo (decide_eq_true (by omega)),hb⟩
end Go.Proofs.YtpennccflalobaaGreatDoor.Kl
