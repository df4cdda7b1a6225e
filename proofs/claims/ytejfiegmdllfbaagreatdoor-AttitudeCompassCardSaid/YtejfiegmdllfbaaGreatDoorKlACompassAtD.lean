import Derived.Test.YtejfiegmdllfbaaGreatDoorKlACompassAtB
namespace Go.Proofs.YtejfiegmdllfbaaGreatDoor.Kl
open Go Go.RowKit
set_option maxRecDepth 100000
set_option maxHeartbeats 8000000
theorem cdir_bad  (ta tb:ByteArray) (h:¬ (IsRat ta.data.toList∧IsRat tb.data.toList)) (za:ta.size≤100000) (zb:tb.size≤100000) (w:World) (R:EnvV w) :
   Calls Tryz.prog 64 #[.agg #[.string ta,.string tb]] w (Ret w (.int .i64 2)):=by
 have c1:CV 77 #[.agg #[.string ta,.string tb]] (.int .i64 2):=fun w R=>check2_raw ta tb 2 (fun k=>absurd k h) (fun _=>rfl) za zb w R
 have C1:=Lib.hid c1
 clear c1 h za zb
 have hb:=Below.refl w.heap.size w
 go_enter Tryz.func64,Tryz.ntmps64
 go_upto_region 1 with fail
 refine wp_alloc1 (fun w1 a0 hk=>?_)
 replace hb:=hb.trans (hk.mono hb.size)
 clear hk
 obtain ⟨Aa,Ab⟩:=ce2 a0
 go_wp2_with (go_at_call 77;with_reducible refine (chVB hb R C1).mono ?_;clear hb;rintro e w1 ⟨rfl,hk,hb⟩;clear Aa Ab;replace a0:=zB hk a0;obtain ⟨Aa,Ab⟩:=ce2 a0;clear hk)
 first | go_ret | go_ret2 | go_ret3
 exact ⟨rfl,hb⟩
theorem cdir_z (x y:Rat) (rx:RL x 200) (ry:RL y 200) (q0:x=0) (q1:y=0) (w:World) (R:EnvV w) :
   Calls Tryz.prog 64 #[.agg #[.string (ratB x),.string (ratB y)]] w (Ret w (.int .i64 17)):=by
 have c1:=fun (w:World) (R:EnvV w)=>pcheck_ok x y rx ry w R.toEnvR
 have eq0:((ratB x).toList == [48])=true:=by rw [ratB_eq_zero];exact decide_eq_true q0
 have pq0:(ratB x).toList=[48]:=(zero_iff _).2 q0
 have eq1:((ratB y).toList == [48])=true:=by rw [ratB_eq_zero];exact decide_eq_true q1
 have pq1:(ratB y).toList=[48]:=(zero_iff _).2 q1
 have C1:=Lib.hid c1
 clear c1 q0 q1 rx ry
 have hb:=Below.refl w.heap.size w
 go_enter Tryz.func64,Tryz.ntmps64
 go_upto_region 1 with fail
 refine wp_alloc1 (fun w1 a0 hk=>?_)
 replace hb:=hb.trans (hk.mono hb.size)
 clear hk
 obtain ⟨Aa,Ab⟩:=ce2 a0
 go_wp2_with (go_at_call 77;with_reducible refine (chVB hb R C1).mono ?_;clear hb;rintro e w1 ⟨rfl,hk,hb⟩;clear Aa Ab;replace a0:=zB hk a0;obtain ⟨Aa,Ab⟩:=ce2 a0;clear hk)
 first | go_ret | go_ret2 | go_ret3
 exact ⟨rfl,hb⟩
theorem cdir_err (ta tb:ByteArray) (v:Int) (h:NErr ta tb ⟨#[48]⟩ v) (za:ta.size≤100000) (zb:tb.size≤100000) (w:World) (R:EnvV w) :
   Calls Tryz.prog 64 #[.agg #[.string ta,.string tb]] w (Ret w (.int .i64 v)):=by
 rcases h with ⟨h,rfl⟩ | ⟨⟨rfl,rfl,_⟩,rfl⟩
 · exact cdir_bad ta tb (fun k=>h ⟨k.1,k.2,isRat_0⟩) za zb w R
 · have r0:RL (0:Rat) 200:=rn_0.rl
   have h:=cdir_z 0 0 r0 r0 rfl rfl w R
   rwa [rb_0] at h
theorem ldir_err  (ta tb:ByteArray) (v:Int) (h:NErr ta tb ⟨#[48]⟩ v) (za:ta.size≤100000) (zb:tb.size≤100000) (w:World) (R:EnvV w) :
   Calls Tryz.prog 27 #[.agg #[.string ta,.string tb]] w (Ret w (.int .i64 v)):=by
 have c1:=normal_err ta tb ⟨#[48]⟩ v h za zb (by decide)
 have C1:=Lib.hid c1
 clear c1 h za zb
 have hb:=Below.refl w.heap.size w
 go_enter Tryz.func27,Tryz.ntmps27
 go_upto_region 1 with fail
 refine wp_alloc1 (fun w1 a0 hk=>?_)
 replace hb:=hb.trans (hk.mono hb.size)
 clear hk
 obtain ⟨Aa,Ab⟩:=ce2 a0
 go_wp2_with (go_at_call 16;with_reducible refine (chVB hb R C1).mono ?_;clear hb;rintro e w1 ⟨rfl,hk,hb⟩;clear Aa Ab;replace a0:=zB hk a0;obtain ⟨Aa,Ab⟩:=ce2 a0;clear hk)
 first | go_ret | go_ret2 | go_ret3
 exact ⟨rfl,hb⟩
theorem ldir_ok (x y:Rat) (rx:RL x 200) (ry:RL y 200) (h:x≠0∨y≠0) (w:World) (R:EnvV w) :
   Calls Tryz.prog 27 #[.agg #[.string (ratB x),.string (ratB y)]] w (Ret w (.int .i64 0)):=by
 have c1:CV 16 #[.agg #[.string (ratB x),.string (ratB y),.string ⟨#[48]⟩]] (.int .i64 0):=fun w R=>(by have h:=normal_ok x y 0 rx ry (rn_0.rl) (h.elim Or.inl (fun k=>Or.inr (Or.inl k))) w R;rw [rb_0] at h;exact h)
 obtain ⟨Ae,Aa⟩:∃ vq,ratB x=vq:=⟨_,rfl⟩
 obtain ⟨Af,Ab⟩:∃ vq,ratB y=vq:=⟨_,rfl⟩
 try simp only [Aa,Ab] at c1 ⊢
 have C1:=Lib.hid c1
 clear c1 Aa Ab h rx ry
 have hb:=Below.refl w.heap.size w
 go_enter Tryz.func27,Tryz.ntmps27
 go_upto_region 1 with fail
 refine wp_alloc1 (fun w1 a0 hk=>?_)
 replace hb:=hb.trans (hk.mono hb.size)
 clear hk
 obtain ⟨Ac,Ad⟩:=ce2 a0
 go_wp2_with (go_at_call 16;with_reducible refine (chVB hb R C1).mono ?_;clear hb;rintro e w1 ⟨rfl,hk,hb⟩;clear Ac Ad;replace a0:=zB hk a0;obtain ⟨Ac,Ad⟩:=ce2 a0;clear hk)
 first | go_ret | go_ret2 | go_ret3
 exact ⟨rfl,hb⟩
theorem dir_cases (ta tb:ByteArray) (sa:ta.size≤24) (sb:tb.size≤24) :
   (∃ v,NErr ta tb ⟨#[48]⟩ v)∨∃ a b:Rat,ta=ratB a∧tb=ratB b∧RN a 24 24∧RN b 24 24∧(a≠0∨b≠0):=by
 rcases normal_cases ta tb ⟨#[48]⟩ sa sb (by decide) with h | ⟨a,b,c,ha,hb,hc,na,nb,_,h⟩
 · exact Or.inl h
 · refine Or.inr ⟨a,b,ha,hb,na,nb,?_⟩
   have hc0:c=0:=ratB_inj (hc.symm.trans rb_0.symm)
   exact h.elim Or.inl (fun k=>k.elim Or.inr (fun k=>absurd hc0 k))
theorem ldiv_any (a c:Rat) (r1:c≠0) (r2:RL a 10000) (r3:RL c 10000) (w:World) (R:EnvV w) :
   Calls Tryz.prog 34 #[.string (ratB a),.string (ratB c)] w (Ret w (.string (ratB (a / c)))):=by
 have c1:=fun (w:World) (R:EnvV w)=>rdiv_any a c r2 r3 r1 w R.toEnvR
 have C1:=Lib.hid c1
 clear c1 r1 r2 r3
 have hb:=Below.refl w.heap.size w
 go_enter Tryz.func34,Tryz.ntmps34
 go_wp2_with (go_at_call 66;with_reducible refine (chVB hb R C1).mono ?_;clear hb;rintro e w1 ⟨rfl,hk,hb⟩;clear hk)
 first | go_ret | go_ret2 | go_ret3
 exact ⟨rfl,hb⟩
end Go.Proofs.YtejfiegmdllfbaaGreatDoor.Kl
