import Derived.Test.YtejfiegmdllfbaaGreatDoorKlACompassAtA
namespace Go.Proofs.YtejfiegmdllfbaaGreatDoor.Kl
open Go Go.RowKit
set_option maxRecDepth 100000
set_option maxHeartbeats 8000000
def NErr (a b c:ByteArray) (v:Int):Prop:=(¬ (IsRat a.data.toList∧IsRat b.data.toList∧IsRat c.data.toList)∧v=2)∨((a=⟨#[48]⟩∧b=⟨#[48]⟩∧c=⟨#[48]⟩)∧v=17)
theorem NErr.ne {a b c:ByteArray} {v:Int} (h:NErr a b c v):v≠0:=by rcases h with ⟨_,rfl⟩ | ⟨_,rfl⟩ <;> decide
theorem normal_0 (a b c:Rat) (ra:RL a 200) (rb:RL b 200) (rc:RL c 200) (q0:a≠0) (w:World) (R:EnvV w) :
   Calls Tryz.prog 16 #[.agg #[.string (ratB a),.string (ratB b),.string (ratB c)]] w (Ret w (.int .i64 0)):=by
 have c1:∀ w,EnvV w→Calls Tryz.prog 21 #[.slice (some ⟨w.heap.size,0,none⟩) 3 3] (w.alloc (Obj.cells #[Value.string (ratB a),Value.string (ratB b),Value.string (ratB c)] 22)) (Ret w (.bool true)):=fun w R=>right3 _ _ _ true ⟨fun _=>⟨isRat_of ra,isRat_of rb,isRat_of rc⟩,fun _=>rfl⟩ (Nat.le_trans (size_of_RL ra) (by decide)) (Nat.le_trans (size_of_RL rb) (by decide)) (Nat.le_trans (size_of_RL rc) (by decide)) w R
 have eq0:((ratB a).toList == [48])=false:=by rw [ratB_eq_zero];exact decide_eq_false q0
 have pq0:¬ (ratB a).toList=[48]:=fun h=>q0 ((zero_iff _).1 h)
 have C1:=Lib.hid c1
 clear c1 q0 ra rb rc
 have hb:=Below.refl w.heap.size w
 go_enter Tryz.func16,Tryz.ntmps16
 go_upto_region 1 with fail
 refine wp_alloc1 (fun w1 a0 hk=>?_)
 replace hb:=hb.trans (hk.mono hb.size)
 clear hk
 obtain ⟨Aa,Ab,Ac⟩:=ce3 a0
 go_wp2_with (go_at_call 21;with_reducible refine (zL hb (C1.out _ (R.below hb))).mono ?_;clear hb;rintro e w1 ⟨rfl,hk,hb⟩;clear Aa Ab Ac;replace a0:=zB hk a0;obtain ⟨Aa,Ab,Ac⟩:=ce3 a0;clear hk)
 first | go_ret | go_ret2 | go_ret3
 exact ⟨rfl,hb⟩
theorem normal_1 (a b c:Rat) (ra:RL a 200) (rb:RL b 200) (rc:RL c 200) (q0:a=0) (q1:b≠0) (w:World) (R:EnvV w) :
   Calls Tryz.prog 16 #[.agg #[.string (ratB a),.string (ratB b),.string (ratB c)]] w (Ret w (.int .i64 0)):=by
 have c1:∀ w,EnvV w→Calls Tryz.prog 21 #[.slice (some ⟨w.heap.size,0,none⟩) 3 3] (w.alloc (Obj.cells #[Value.string (ratB a),Value.string (ratB b),Value.string (ratB c)] 22)) (Ret w (.bool true)):=fun w R=>right3 _ _ _ true ⟨fun _=>⟨isRat_of ra,isRat_of rb,isRat_of rc⟩,fun _=>rfl⟩ (Nat.le_trans (size_of_RL ra) (by decide)) (Nat.le_trans (size_of_RL rb) (by decide)) (Nat.le_trans (size_of_RL rc) (by decide)) w R
 have eq0:((ratB a).toList == [48])=true:=by rw [ratB_eq_zero];exact decide_eq_true q0
 have pq0:(ratB a).toList=[48]:=(zero_iff _).2 q0
 have eq1:((ratB b).toList == [48])=false:=by rw [ratB_eq_zero];exact decide_eq_false q1
 have pq1:¬ (ratB b).toList=[48]:=fun h=>q1 ((zero_iff _).1 h)
 have C1:=Lib.hid c1
 clear c1 q0 q1 ra rb rc
 have hb:=Below.refl w.heap.size w
 go_enter Tryz.func16,Tryz.ntmps16
 go_upto_region 1 with fail
 refine wp_alloc1 (fun w1 a0 hk=>?_)
 replace hb:=hb.trans (hk.mono hb.size)
 clear hk
 obtain ⟨Aa,Ab,Ac⟩:=ce3 a0
 go_wp2_with (go_at_call 21;with_reducible refine (zL hb (C1.out _ (R.below hb))).mono ?_;clear hb;rintro e w1 ⟨rfl,hk,hb⟩;clear Aa Ab Ac;replace a0:=zB hk a0;obtain ⟨Aa,Ab,Ac⟩:=ce3 a0;clear hk)
 first | go_ret | go_ret2 | go_ret3
 exact ⟨rfl,hb⟩
theorem normal_2 (a b c:Rat) (ra:RL a 200) (rb:RL b 200) (rc:RL c 200) (q0:a=0) (q1:b=0) (q2:c≠0) (w:World) (R:EnvV w) :
   Calls Tryz.prog 16 #[.agg #[.string (ratB a),.string (ratB b),.string (ratB c)]] w (Ret w (.int .i64 0)):=by
 have c1:∀ w,EnvV w→Calls Tryz.prog 21 #[.slice (some ⟨w.heap.size,0,none⟩) 3 3] (w.alloc (Obj.cells #[Value.string (ratB a),Value.string (ratB b),Value.string (ratB c)] 22)) (Ret w (.bool true)):=fun w R=>right3 _ _ _ true ⟨fun _=>⟨isRat_of ra,isRat_of rb,isRat_of rc⟩,fun _=>rfl⟩ (Nat.le_trans (size_of_RL ra) (by decide)) (Nat.le_trans (size_of_RL rb) (by decide)) (Nat.le_trans (size_of_RL rc) (by decide)) w R
 have eq0:((ratB a).toList == [48])=true:=by rw [ratB_eq_zero];exact decide_eq_true q0
 have pq0:(ratB a).toList=[48]:=(zero_iff _).2 q0
 have eq1:((ratB b).toList == [48])=true:=by rw [ratB_eq_zero];exact decide_eq_true q1
 have pq1:(ratB b).toList=[48]:=(zero_iff _).2 q1
 have eq2:((ratB c).toList == [48])=false:=by rw [ratB_eq_zero];exact decide_eq_false q2
 have pq2:¬ (ratB c).toList=[48]:=fun h=>q2 ((zero_iff _).1 h)
 have C1:=Lib.hid c1
 clear c1 q0 q1 q2 ra rb rc
 have hb:=Below.refl w.heap.size w
 go_enter Tryz.func16,Tryz.ntmps16
 go_upto_region 1 with fail
 refine wp_alloc1 (fun w1 a0 hk=>?_)
 replace hb:=hb.trans (hk.mono hb.size)
 clear hk
 obtain ⟨Aa,Ab,Ac⟩:=ce3 a0
 go_wp2_with (go_at_call 21;with_reducible refine (zL hb (C1.out _ (R.below hb))).mono ?_;clear hb;rintro e w1 ⟨rfl,hk,hb⟩;clear Aa Ab Ac;replace a0:=zB hk a0;obtain ⟨Aa,Ab,Ac⟩:=ce3 a0;clear hk)
 first | go_ret | go_ret2 | go_ret3
 exact ⟨rfl,hb⟩
theorem normal_z (a b c:Rat) (ra:RL a 200) (rb:RL b 200) (rc:RL c 200) (q0:a=0) (q1:b=0) (q2:c=0) (w:World) (R:EnvV w) :
   Calls Tryz.prog 16 #[.agg #[.string (ratB a),.string (ratB b),.string (ratB c)]] w (Ret w (.int .i64 17)):=by
 have c1:∀ w,EnvV w→Calls Tryz.prog 21 #[.slice (some ⟨w.heap.size,0,none⟩) 3 3] (w.alloc (Obj.cells #[Value.string (ratB a),Value.string (ratB b),Value.string (ratB c)] 22)) (Ret w (.bool true)):=fun w R=>right3 _ _ _ true ⟨fun _=>⟨isRat_of ra,isRat_of rb,isRat_of rc⟩,fun _=>rfl⟩ (Nat.le_trans (size_of_RL ra) (by decide)) (Nat.le_trans (size_of_RL rb) (by decide)) (Nat.le_trans (size_of_RL rc) (by decide)) w R
 have eq0:((ratB a).toList == [48])=true:=by rw [ratB_eq_zero];exact decide_eq_true q0
 have pq0:(ratB a).toList=[48]:=(zero_iff _).2 q0
 have eq1:((ratB b).toList == [48])=true:=by rw [ratB_eq_zero];exact decide_eq_true q1
 have pq1:(ratB b).toList=[48]:=(zero_iff _).2 q1
 have eq2:((ratB c).toList == [48])=true:=by rw [ratB_eq_zero];exact decide_eq_true q2
 have pq2:(ratB c).toList=[48]:=(zero_iff _).2 q2
 have C1:=Lib.hid c1
 clear c1 q0 q1 q2 ra rb rc
 have hb:=Below.refl w.heap.size w
 go_enter Tryz.func16,Tryz.ntmps16
 go_upto_region 1 with fail
 refine wp_alloc1 (fun w1 a0 hk=>?_)
 replace hb:=hb.trans (hk.mono hb.size)
 clear hk
 obtain ⟨Aa,Ab,Ac⟩:=ce3 a0
 go_wp2_with (go_at_call 21;with_reducible refine (zL hb (C1.out _ (R.below hb))).mono ?_;clear hb;rintro e w1 ⟨rfl,hk,hb⟩;clear Aa Ab Ac;replace a0:=zB hk a0;obtain ⟨Aa,Ab,Ac⟩:=ce3 a0;clear hk)
 first | go_ret | go_ret2 | go_ret3
 exact ⟨rfl,hb⟩
theorem normal_ok (a b c:Rat) (ra:RL a 200) (rb:RL b 200) (rc:RL c 200) (h:a≠0∨b≠0∨c≠0) (w:World) (R:EnvV w) :
   Calls Tryz.prog 16 #[.agg #[.string (ratB a),.string (ratB b),.string (ratB c)]] w (Ret w (.int .i64 0)):=by
 by_cases q0:a=0
 · by_cases q1:b=0
   · exact normal_2 a b c ra rb rc q0 q1 ((h.resolve_left (fun k=>k q0)).resolve_left (fun k=>k q1)) w R
   · exact normal_1 a b c ra rb rc q0 q1 w R
 · exact normal_0 a b c ra rb rc q0 w R
theorem normal_bad  (ta tb tc:ByteArray) (h:¬ (IsRat ta.data.toList∧IsRat tb.data.toList∧IsRat tc.data.toList)) (za:ta.size≤100000) (zb:tb.size≤100000) (zc:tc.size≤100000) (w:World) (R:EnvV w) :
   Calls Tryz.prog 16 #[.agg #[.string ta,.string tb,.string tc]] w (Ret w (.int .i64 2)):=by
 have c1:=right3 ta tb tc false ⟨(fun h=>by cases h),fun k=>absurd k h⟩ za zb zc
 have C1:=Lib.hid c1
 clear c1 h za zb zc
 have hb:=Below.refl w.heap.size w
 go_enter Tryz.func16,Tryz.ntmps16
 go_upto_region 1 with fail
 refine wp_alloc1 (fun w1 a0 hk=>?_)
 replace hb:=hb.trans (hk.mono hb.size)
 clear hk
 obtain ⟨Aa,Ab,Ac⟩:=ce3 a0
 go_wp2_with (go_at_call 21;with_reducible refine (zL hb (C1.out _ (R.below hb))).mono ?_;clear hb;rintro e w1 ⟨rfl,hk,hb⟩;clear Aa Ab Ac;replace a0:=zB hk a0;obtain ⟨Aa,Ab,Ac⟩:=ce3 a0;clear hk)
 first | go_ret | go_ret2 | go_ret3
 exact ⟨rfl,hb⟩
theorem normal_err (ta tb tc:ByteArray) (v:Int) (h:NErr ta tb tc v) (za:ta.size≤100000) (zb:tb.size≤100000) (zc:tc.size≤100000) (w:World) (R:EnvV w) :
   Calls Tryz.prog 16 #[.agg #[.string ta,.string tb,.string tc]] w (Ret w (.int .i64 v)):=by
 rcases h with ⟨h,rfl⟩ | ⟨⟨rfl,rfl,rfl⟩,rfl⟩
 · exact normal_bad ta tb tc h za zb zc w R
 · have r0:RL (0:Rat) 200:=rn_0.rl
   have h:=normal_z 0 0 0 r0 r0 r0 rfl rfl rfl w R
   rwa [rb_0] at h
theorem normal_cases (ta tb tc:ByteArray) (sa:ta.size≤24) (sb:tb.size≤24) (sc:tc.size≤24) :
   (∃ v,NErr ta tb tc v)∨∃ a b c:Rat,ta=ratB a∧tb=ratB b∧tc=ratB c∧RN a 24 24∧RN b 24 24∧RN c 24 24∧(a≠0∨b≠0∨c≠0):=by
 by_cases h:IsRat ta.data.toList∧IsRat tb.data.toList∧IsRat tc.data.toList
 · obtain ⟨a,rfl,_⟩:=rat_of h.1
   obtain ⟨b,rfl,_⟩:=rat_of h.2.1
   obtain ⟨c,rfl,_⟩:=rat_of h.2.2
   by_cases g:a=0∧b=0∧c=0
   · obtain ⟨rfl,rfl,rfl⟩:=g
     exact Or.inl ⟨17,Or.inr ⟨⟨rb_0,rb_0,rb_0⟩,rfl⟩⟩
   · refine Or.inr ⟨a,b,c,rfl,rfl,rfl,RN_of (RL_of_size sa),RN_of (RL_of_size sb),RN_of (RL_of_size sc),?_⟩
     by_cases q0:a=0
     · by_cases q1:b=0
       · exact Or.inr (Or.inr (fun q2=>g ⟨q0,q1,q2⟩))
       · exact Or.inr (Or.inl q1)
     · exact Or.inl q0
 · exact Or.inl ⟨2,Or.inl ⟨h,rfl⟩⟩
end Go.Proofs.YtejfiegmdllfbaaGreatDoor.Kl
