import Derived.Test.YtpiiclmkbplkhaaGreatDoorKlBLPZ
namespace Go.Proofs.YtpiiclmkbplkhaaGreatDoor.Kl
open Go Go.RowKit
set_option maxRecDepth 100000
set_option maxHeartbeats 8000000
set_option maxRecDepth 512 in
theorem orInt2 (a0 a1:Int) (v:Int) (hv:firstNZ [a0,a1]=v) (w:World) :
   Calls Tryz.prog 95 #[.slice (some ⟨w.heap.size,0,none⟩) 2 2] (w.alloc (Obj.cells #[Value.int .i64 a0,Value.int .i64 a1] 3)) (Ret w (.int .i64 v)):=by
 have hba:Below w.heap.size w (w.alloc (Obj.cells #[Value.int .i64 a0,Value.int .i64 a1] 3)):=(Below.refl _ _).alloc (Nat.le_refl _) _
 refine (orInt_w w.heap.size 2 2 [a0,a1] rfl (by decide) v hv _ ?_).mono fun e w' h=>⟨h.1,hba.trans (h.2.mono hba.size)⟩
 intro j t h
 match j,h with
 | 0,h=>injection h with h;subst h;simp [go_sem]
 | 1,h=>injection h with h;subst h;simp [go_sem]
 | j+2,h=>simp at h
theorem lhalf_0  (s0 s1:ByteArray) (A B V:Int) (k0:CV 54 #[.string s0] (.int .i64 A)) (k1:CV 54 #[.string s1] (.int .i64 B)) (WC0:decide (0 < V)=true) (hv:firstNZ [A,B]=V) (w:World) (R:EnvV w) :
   Calls Tryz.prog 78 #[.agg #[.string s0,.string s1]] w (Ret w (.int .i64 0)):=by
 have c1:=k0
 have c2:=k1
 have c3:=fun (w:World) (R:EnvV w)=>orInt2 A B V hv w
 have gc0:decide (0 < V)=true:=WC0
 have C1:=Lib.hid c1
 have C2:=Lib.hid c2
 have C3:=Lib.hid c3
 clear c1 c2 c3 k0 k1 WC0 hv
 have hb:=Below.refl w.heap.size w
 go_enter Tryz.func78,Tryz.ntmps78
 go_upto_region 1 with fail
 refine wp_alloc1 (fun w1 a0 hk=>?_)
 replace hb:=hb.trans (hk.mono hb.size)
 clear hk
 obtain ⟨Aa,Ab⟩:=ce2 a0
 go_upto_region 1 with fail
 obtain ⟨Ae,Af⟩:=cy2 a0
 have Ac:=rrV C1 R hb
 have Ad:=rrV C2 R hb
 refine wp_region_tail_below 6 (by first | assumption | kernel_rfl) (by kernel_rfl) ?_
 simp only [List.take_succ_cons,List.take_zero,List.drop_succ_cons,List.drop_zero]
 repeat (quiet_step (first | (with_reducible exact Ac.out _ _) | (with_reducible exact Ad.out _ _)))
 refine wpQuiet_nil ?_
 intro w1 hw'
 obtain ⟨hk,hb⟩:=zQ hb hw'
 clear Aa Ab
 replace a0:=zB hk a0
 obtain ⟨Aa,Ab⟩:=ce2 a0
 clear Ac Ad Ae Af
 clear hk hw'
 go_wp2_with (go_at_call 95;with_reducible refine (zL hb (C3.out _ (R.below hb))).mono ?_;clear hb;rintro e w1 ⟨rfl,hk,hb⟩;clear Aa Ab;replace a0:=zB hk a0;obtain ⟨Aa,Ab⟩:=ce2 a0;clear hk)
 first | go_ret | go_ret2 | go_ret3
 exact ⟨rfl,hb⟩
theorem lhalf_1  (s0 s1:ByteArray) (A B V:Int) (k0:CV 54 #[.string s0] (.int .i64 A)) (k1:CV 54 #[.string s1] (.int .i64 B)) (WC0:decide (0 < V)=false) (hv:firstNZ [A,B]=V) (w:World) (R:EnvV w) :
   Calls Tryz.prog 78 #[.agg #[.string s0,.string s1]] w (Ret w (.int .i64 1)):=by
 have c1:=k0
 have c2:=k1
 have c3:=fun (w:World) (R:EnvV w)=>orInt2 A B V hv w
 have gc0:decide (0 < V)=false:=WC0
 have C1:=Lib.hid c1
 have C2:=Lib.hid c2
 have C3:=Lib.hid c3
 clear c1 c2 c3 k0 k1 WC0 hv
 have hb:=Below.refl w.heap.size w
 go_enter Tryz.func78,Tryz.ntmps78
 go_upto_region 1 with fail
 refine wp_alloc1 (fun w1 a0 hk=>?_)
 replace hb:=hb.trans (hk.mono hb.size)
 clear hk
 obtain ⟨Aa,Ab⟩:=ce2 a0
 go_upto_region 1 with fail
 obtain ⟨Ae,Af⟩:=cy2 a0
 have Ac:=rrV C1 R hb
 have Ad:=rrV C2 R hb
 refine wp_region_tail_below 6 (by first | assumption | kernel_rfl) (by kernel_rfl) ?_
 simp only [List.take_succ_cons,List.take_zero,List.drop_succ_cons,List.drop_zero]
 repeat (quiet_step (first | (with_reducible exact Ac.out _ _) | (with_reducible exact Ad.out _ _)))
 refine wpQuiet_nil ?_
 intro w1 hw'
 obtain ⟨hk,hb⟩:=zQ hb hw'
 clear Aa Ab
 replace a0:=zB hk a0
 obtain ⟨Aa,Ab⟩:=ce2 a0
 clear Ac Ad Ae Af
 clear hk hw'
 go_wp2_with (go_at_call 95;with_reducible refine (zL hb (C3.out _ (R.below hb))).mono ?_;clear hb;rintro e w1 ⟨rfl,hk,hb⟩;clear Aa Ab;replace a0:=zB hk a0;obtain ⟨Aa,Ab⟩:=ce2 a0;clear hk)
 first | go_ret | go_ret2 | go_ret3
 exact ⟨rfl,hb⟩
theorem lclock_e  (s0 s1 t0 t1 u:ByteArray) (P Q K D:Int) (h0:CV 78 #[.agg #[.string s0,.string s1]] (.int .i64 P)) (h1:CV 78 #[.agg #[.string t0,.string t1]] (.int .i64 Q)) (dt:CV 79 #[.string s0,.string s1,.string t0,.string t1] (.string u)) (sg:CV 54 #[.string u] (.int .i64 D)) (WC0:(K == 0)=true) (hK:Lib.compareInt P Q=K) (w:World) (R:EnvV w) :
   Calls Tryz.prog 46 #[.agg #[.string s0,.string s1],.agg #[.string t0,.string t1]] w (Ret w (.int .i64 D)):=by
 have c1:=h0
 have c2:=h1
 have c3:CV 61 #[.int .i64 P,.int .i64 Q] (.int .i64 K):=fun w R=>((Tryz.cmp_Compare_int P Q w).mono (fun e w' h=>⟨h.1.trans (by rw [hK]),h.2 ▸ Below.refl _ _⟩))
 have c4:=dt
 have c5:=sg
 have gc0:(K == 0)=true:=WC0
 have C1:=Lib.hid c1
 have C2:=Lib.hid c2
 have C3:=Lib.hid c3
 have C4:=Lib.hid c4
 have C5:=Lib.hid c5
 clear c1 c2 c3 c4 c5 h0 h1 dt sg WC0 hK
 have hb:=Below.refl w.heap.size w
 go_enter Tryz.func46,Tryz.ntmps46
 go_upto_region 1 with fail
 refine wp_alloc2 (fun w1 a0 a1 hk=>?_)
 replace hb:=hb.trans (hk.mono hb.size)
 clear hk
 obtain ⟨Aa,Ab⟩:=ce2 a0
 obtain ⟨Ac,Ad⟩:=ce2 a1
 go_upto_region 1 with fail
 obtain ⟨Ah,Ai⟩:=cy2 a0
 obtain ⟨Aj,Ak⟩:=cy2 a1
 have Ae:=rrV C1 R hb
 have Af:=rrV C2 R hb
 have Ag:=rrV C3 R hb
 refine wp_region_quiet_below (by first | assumption | kernel_rfl) (by kernel_rfl) ?_
 repeat (quiet_step (first | (with_reducible exact Ae.out _ _) | (with_reducible exact Af.out _ _) | (with_reducible exact Ag.out _ _)))
 refine wpQuiet_nil ?_
 intro w1 hw'
 obtain ⟨hk,hb⟩:=zQ hb hw'
 clear Aa Ab Ac Ad
 replace a0:=zB hk a0
 replace a1:=zB hk a1
 obtain ⟨Aa,Ab⟩:=ce2 a0
 obtain ⟨Ac,Ad⟩:=ce2 a1
 clear Ae Af Ag Ah Ai Aj Ak
 clear hk hw'
 go_wp2_with ((first | (go_at_call 79;with_reducible refine (chVB hb R C4).mono ?_) | (go_at_call 54;with_reducible refine (chVB hb R C5).mono ?_));clear hb;rintro e w1 ⟨rfl,hk,hb⟩;clear Aa Ab Ac Ad;replace a0:=zB hk a0;replace a1:=zB hk a1;obtain ⟨Aa,Ab⟩:=ce2 a0;obtain ⟨Ac,Ad⟩:=ce2 a1;clear hk)
 first | go_ret | go_ret2 | go_ret3
 exact ⟨rfl,hb⟩
theorem lclock_n  (s0 s1 t0 t1:ByteArray) (P Q K:Int) (h0:CV 78 #[.agg #[.string s0,.string s1]] (.int .i64 P)) (h1:CV 78 #[.agg #[.string t0,.string t1]] (.int .i64 Q)) (WC0:(K == 0)=false) (hK:Lib.compareInt P Q=K) (w:World) (R:EnvV w) :
   Calls Tryz.prog 46 #[.agg #[.string s0,.string s1],.agg #[.string t0,.string t1]] w (Ret w (.int .i64 K)):=by
 have c1:=h0
 have c2:=h1
 have c3:CV 61 #[.int .i64 P,.int .i64 Q] (.int .i64 K):=fun w R=>((Tryz.cmp_Compare_int P Q w).mono (fun e w' h=>⟨h.1.trans (by rw [hK]),h.2 ▸ Below.refl _ _⟩))
 have gc0:(K == 0)=false:=WC0
 have C1:=Lib.hid c1
 have C2:=Lib.hid c2
 have C3:=Lib.hid c3
 clear c1 c2 c3 h0 h1 WC0 hK
 have hb:=Below.refl w.heap.size w
 go_enter Tryz.func46,Tryz.ntmps46
 go_upto_region 1 with fail
 refine wp_alloc2 (fun w1 a0 a1 hk=>?_)
 replace hb:=hb.trans (hk.mono hb.size)
 clear hk
 obtain ⟨Aa,Ab⟩:=ce2 a0
 obtain ⟨Ac,Ad⟩:=ce2 a1
 go_upto_region 1 with fail
 obtain ⟨Ah,Ai⟩:=cy2 a0
 obtain ⟨Aj,Ak⟩:=cy2 a1
 have Ae:=rrV C1 R hb
 have Af:=rrV C2 R hb
 have Ag:=rrV C3 R hb
 refine wp_region_quiet_below (by first | assumption | kernel_rfl) (by kernel_rfl) ?_
 repeat (quiet_step (first | (with_reducible exact Ae.out _ _) | (with_reducible exact Af.out _ _) | (with_reducible exact Ag.out _ _)))
 refine wpQuiet_nil ?_
 intro w1 hw'
 obtain ⟨hk,hb⟩:=zQ hb hw'
 clear Aa Ab Ac Ad
 replace a0:=zB hk a0
 replace a1:=zB hk a1
 obtain ⟨Aa,Ab⟩:=ce2 a0
 obtain ⟨Ac,Ad⟩:=ce2 a1
 clear Ae Af Ag Ah Ai Aj Ak
 clear hk hw'
 go_wp2
 first | go_ret | go_ret2 | go_ret3
 exact ⟨rfl,hb⟩
theorem lbear_w  (s0 s1 s2 t0 t1 t2:ByteArray) (hd:CV 80 #[.agg #[.string s0,.string s1,.string s2]] (.agg #[.string t0,.string t1,.string t2])) (w:World) (R:EnvV w) :
   Calls Tryz.prog 47 #[.agg #[.string s0,.string s1,.string s2]] w (Ret w (.agg #[.string t0,.string t1])):=by
 have c1:=hd
 have C1:=Lib.hid c1
 clear c1 hd
 have hb:=Below.refl w.heap.size w
 go_enter Tryz.func47,Tryz.ntmps47
 go_upto_region 1 with fail
 refine wp_alloc2 (fun w1 a0 a1 hk=>?_)
 replace hb:=hb.trans (hk.mono hb.size)
 clear hk
 obtain ⟨Ae,Af,Ag⟩:=ce3 a0
 obtain ⟨Aa,Ac,Ab,Ad⟩:=cf2 a1
 go_upto_region 2 with (go_at_call 80;with_reducible refine (chVB hb R C1).mono ?_;clear hb;rintro e w1 ⟨rfl,hk,hb⟩;clear Ae Af Ag Aa Ab Ac Ad;replace a0:=zB hk a0;replace a1:=zB hk a1;obtain ⟨Ae,Af,Ag⟩:=ce3 a0;obtain ⟨Aa,Ac,Ab,Ad⟩:=cf2 a1;clear hk)
 clear Ae Af Ag a0
 refine wp_alloc1 (fun w1 Ah hk=>?_)
 clear Aa Ab Ac Ad
 replace a1:=zB hk a1
 obtain ⟨Aa,Ac,Ab,Ad⟩:=cf2 a1
 replace hb:=hb.trans (hk.mono hb.size)
 clear hk
 obtain ⟨Ai,Aj,Ak⟩:=ce3 Ah
 go_wp2
 refine bodyPost_ret (v:=.agg #[.string t0,.string t1]) (by simp [results,Tryz.results47,go_sem,Aa,Ab]) rfl ⟨rfl,?_⟩
 repeat' (first | exact hb | refine Below.setCell ?_ (by first | exact Nat.le_refl _ | (dsimp only;omega)) _)
theorem vatL_0_1  (w:World) (R:EnvV w) :
   Calls Tryz.prog 56 #[.int .i64 0,.int .i64 1] w (Ret w (.agg #[.string ⟨#[48]⟩,.string ⟨#[49]⟩])):=by
 have c1:CV 71 #[.int .i64 0] (.string ⟨#[48]⟩):=fun w R=>(by have h:=rwhole_any (0) (by decide) (by decide) w R.toEnvR;rw [show itoaB (0)=⟨#[48]⟩ from by decide +kernel] at h;exact h)
 have c2:CV 71 #[.int .i64 1] (.string ⟨#[49]⟩):=fun w R=>(by have h:=rwhole_any (1) (by decide) (by decide) w R.toEnvR;rw [show itoaB (1)=⟨#[49]⟩ from by decide +kernel] at h;exact h)
 have C1:=Lib.hid c1
 have C2:=Lib.hid c2
 clear c1 c2
 have hb:=Below.refl w.heap.size w
 go_enter Tryz.func56,Tryz.ntmps56
 go_upto_region 1 with fail
 refine wp_alloc1 (fun w1 a0 hk=>?_)
 replace hb:=hb.trans (hk.mono hb.size)
 clear hk
 obtain ⟨Aa,Ac,Ab,Ad⟩:=cf2 a0
 go_wp2_with ((go_at_call 71;first | with_reducible refine (chVB hb R C1).mono ?_ | with_reducible refine (chVB hb R C2).mono ?_);clear hb;rintro e w1 ⟨rfl,hk,hb⟩;clear Aa Ab Ac Ad;replace a0:=zB hk a0;obtain ⟨Aa,Ac,Ab,Ad⟩:=cf2 a0;clear hk)
 refine bodyPost_ret (v:=.agg #[.string ⟨#[48]⟩,.string ⟨#[49]⟩]) (by simp [results,Tryz.results56,go_sem,Aa,Ab]) rfl ⟨rfl,?_⟩
 repeat' (first | exact hb | refine Below.setCell ?_ (by first | exact Nat.le_refl _ | (dsimp only;omega)) _)
theorem vatL_1_0  (w:World) (R:EnvV w) :
   Calls Tryz.prog 56 #[.int .i64 1,.int .i64 0] w (Ret w (.agg #[.string ⟨#[49]⟩,.string ⟨#[48]⟩])):=by
 have c1:CV 71 #[.int .i64 1] (.string ⟨#[49]⟩):=fun w R=>(by have h:=rwhole_any (1) (by decide) (by decide) w R.toEnvR;rw [show itoaB (1)=⟨#[49]⟩ from by decide +kernel] at h;exact h)
 have c2:CV 71 #[.int .i64 0] (.string ⟨#[48]⟩):=fun w R=>(by have h:=rwhole_any (0) (by decide) (by decide) w R.toEnvR;rw [show itoaB (0)=⟨#[48]⟩ from by decide +kernel] at h;exact h)
 have C1:=Lib.hid c1
 have C2:=Lib.hid c2
 clear c1 c2
 have hb:=Below.refl w.heap.size w
 go_enter Tryz.func56,Tryz.ntmps56
 go_upto_region 1 with fail
 refine wp_alloc1 (fun w1 a0 hk=>?_)
 replace hb:=hb.trans (hk.mono hb.size)
 clear hk
 obtain ⟨Aa,Ac,Ab,Ad⟩:=cf2 a0
 go_wp2_with ((go_at_call 71;first | with_reducible refine (chVB hb R C1).mono ?_ | with_reducible refine (chVB hb R C2).mono ?_);clear hb;rintro e w1 ⟨rfl,hk,hb⟩;clear Aa Ab Ac Ad;replace a0:=zB hk a0;obtain ⟨Aa,Ac,Ab,Ad⟩:=cf2 a0;clear hk)
 refine bodyPost_ret (v:=.agg #[.string ⟨#[49]⟩,.string ⟨#[48]⟩]) (by simp [results,Tryz.results56,go_sem,Aa,Ab]) rfl ⟨rfl,?_⟩
 repeat' (first | exact hb | refine Below.setCell ?_ (by first | exact Nat.le_refl _ | (dsimp only;omega)) _)
theorem vatL_0_m1  (w:World) (R:EnvV w) :
   Calls Tryz.prog 56 #[.int .i64 0,.int .i64 (-1)] w (Ret w (.agg #[.string ⟨#[48]⟩,.string ⟨#[45,49]⟩])):=by
 have c1:CV 71 #[.int .i64 0] (.string ⟨#[48]⟩):=fun w R=>(by have h:=rwhole_any (0) (by decide) (by decide) w R.toEnvR;rw [show itoaB (0)=⟨#[48]⟩ from by decide +kernel] at h;exact h)
 have c2:CV 71 #[.int .i64 (-1)] (.string ⟨#[45,49]⟩):=fun w R=>(by have h:=rwhole_any (-1) (by decide) (by decide) w R.toEnvR;rw [show itoaB (-1)=⟨#[45,49]⟩ from by decide +kernel] at h;exact h)
 have C1:=Lib.hid c1
 have C2:=Lib.hid c2
 clear c1 c2
 have hb:=Below.refl w.heap.size w
 go_enter Tryz.func56,Tryz.ntmps56
 go_upto_region 1 with fail
 refine wp_alloc1 (fun w1 a0 hk=>?_)
 replace hb:=hb.trans (hk.mono hb.size)
 clear hk
 obtain ⟨Aa,Ac,Ab,Ad⟩:=cf2 a0
 go_wp2_with ((go_at_call 71;first | with_reducible refine (chVB hb R C1).mono ?_ | with_reducible refine (chVB hb R C2).mono ?_);clear hb;rintro e w1 ⟨rfl,hk,hb⟩;clear Aa Ab Ac Ad;replace a0:=zB hk a0;obtain ⟨Aa,Ac,Ab,Ad⟩:=cf2 a0;clear hk)
 refine bodyPost_ret (v:=.agg #[.string ⟨#[48]⟩,.string ⟨#[45,49]⟩]) (by simp [results,Tryz.results56,go_sem,Aa,Ab]) rfl ⟨rfl,?_⟩
 repeat' (first | exact hb | refine Below.setCell ?_ (by first | exact Nat.le_refl _ | (dsimp only;omega)) _)
theorem vatL_m1_0  (w:World) (R:EnvV w) :
   Calls Tryz.prog 56 #[.int .i64 (-1),.int .i64 0] w (Ret w (.agg #[.string ⟨#[45,49]⟩,.string ⟨#[48]⟩])):=by
 have c1:CV 71 #[.int .i64 (-1)] (.string ⟨#[45,49]⟩):=fun w R=>(by have h:=rwhole_any (-1) (by decide) (by decide) w R.toEnvR;rw [show itoaB (-1)=⟨#[45,49]⟩ from by decide +kernel] at h;exact h)
 have c2:CV 71 #[.int .i64 0] (.string ⟨#[48]⟩):=fun w R=>(by have h:=rwhole_any (0) (by decide) (by decide) w R.toEnvR;rw [show itoaB (0)=⟨#[48]⟩ from by decide +kernel] at h;exact h)
 have C1:=Lib.hid c1
 have C2:=Lib.hid c2
 clear c1 c2
 have hb:=Below.refl w.heap.size w
 go_enter Tryz.func56,Tryz.ntmps56
 go_upto_region 1 with fail
 refine wp_alloc1 (fun w1 a0 hk=>?_)
 replace hb:=hb.trans (hk.mono hb.size)
 clear hk
 obtain ⟨Aa,Ac,Ab,Ad⟩:=cf2 a0
 go_wp2_with ((go_at_call 71;first | with_reducible refine (chVB hb R C1).mono ?_ | with_reducible refine (chVB hb R C2).mono ?_);clear hb;rintro e w1 ⟨rfl,hk,hb⟩;clear Aa Ab Ac Ad;replace a0:=zB hk a0;obtain ⟨Aa,Ac,Ab,Ad⟩:=cf2 a0;clear hk)
 refine bodyPost_ret (v:=.agg #[.string ⟨#[45,49]⟩,.string ⟨#[48]⟩]) (by simp [results,Tryz.results56,go_sem,Aa,Ab]) rfl ⟨rfl,?_⟩
 repeat' (first | exact hb | refine Below.setCell ?_ (by first | exact Nat.le_refl _ | (dsimp only;omega)) _)
theorem bsearch_0 (blk:Nat) (t0 t1:ByteArray) (K0 K1 K2:Int) (f:Bool) (c0:CV 46 #[.agg #[.string ⟨#[48]⟩,.string ⟨#[49]⟩],.agg #[.string t0,.string t1]] (.int .i64 K0)) (c1:CV 46 #[.agg #[.string ⟨#[49]⟩,.string ⟨#[48]⟩],.agg #[.string t0,.string t1]] (.int .i64 K1)) (c2:CV 46 #[.agg #[.string ⟨#[48]⟩,.string ⟨#[45,49]⟩],.agg #[.string t0,.string t1]] (.int .i64 K2)) (g0:decide (K0 < 0)=false) (g1:decide (K1 < 0)=false) (g2:decide (K2 < 0)=false) (ge:(K0 == 0)=f) (w:World) (R:EnvV w) (y0:w.cell? ⟨blk,0,none⟩=some (.string ⟨#[48]⟩)) (y1:w.cell? ⟨blk,1,none⟩=some (.string ⟨#[49]⟩)) (y2:w.cell? ⟨blk,2,none⟩=some (.string ⟨#[49]⟩)) (y3:w.cell? ⟨blk,3,none⟩=some (.string ⟨#[48]⟩)) (y4:w.cell? ⟨blk,4,none⟩=some (.string ⟨#[48]⟩)) (y5:w.cell? ⟨blk,5,none⟩=some (.string ⟨#[45,49]⟩)) (y6:w.cell? ⟨blk,6,none⟩=some (.string ⟨#[45,49]⟩)) (y7:w.cell? ⟨blk,7,none⟩=some (.string ⟨#[48]⟩)) :
   Calls Tryz.prog 57 #[.slice (some ⟨blk,0,none⟩) 4 4,.agg #[.string t0,.string t1],.func (Fn.func 46) #[] #[]] w (Ret w (.tuple #[.int .i64 0,.bool f])):=by
 have C0:=Lib.hid c0
 clear c0
 have C1:=Lib.hid c1
 clear c1
 have C2:=Lib.hid c2
 clear c2
 have Y0:=Lib.hid y0
 clear y0
 have Y1:=Lib.hid y1
 clear y1
 have Y2:=Lib.hid y2
 clear y2
 have Y3:=Lib.hid y3
 clear y3
 have Y4:=Lib.hid y4
 clear y4
 have Y5:=Lib.hid y5
 clear y5
 have Y6:=Lib.hid y6
 clear y6
 have Y7:=Lib.hid y7
 clear y7
 have hb:=Below.refl w.heap.size w
 go_enter Tryz.func57,Tryz.ntmps57
 go_upto_region 1 with fail
 refine wp_alloc1 (fun w1 a0 hk=>?_)
 have YY0:=Lib.hid (zC hk Y0.out)
 clear Y0
 have YY1:=Lib.hid (zC hk Y1.out)
 clear Y1
 have YY2:=Lib.hid (zC hk Y2.out)
 clear Y2
 have YY3:=Lib.hid (zC hk Y3.out)
 clear Y3
 have YY4:=Lib.hid (zC hk Y4.out)
 clear Y4
 have YY5:=Lib.hid (zC hk Y5.out)
 clear Y5
 have YY6:=Lib.hid (zC hk Y6.out)
 clear Y6
 have YY7:=Lib.hid (zC hk Y7.out)
 clear Y7
 replace hb:=hb.trans (hk.mono hb.size)
 clear hk
 have HA:=Lib.hid a0
 have HB:=Lib.hid hb
 clear a0 hb
 go_wp2
 go_loopw [9,10] (fun i j wr=>((i = .int .i64 0∧j = .int .i64 4)∨(i = .int .i64 0∧j = .int .i64 2)∨(i = .int .i64 0∧j = .int .i64 1)∨(i = .int .i64 0∧j = .int .i64 0))∧Below w1.heap.size w1 wr) (fun i j _=>(intOf j - intOf i).toNat)
 case atStart=>exact ⟨Or.inl ⟨rfl,rfl⟩,Below.refl _ _⟩
 case round =>
   obtain ⟨⟨rfl,rfl⟩ | ⟨rfl,rfl⟩ | ⟨rfl,rfl⟩ | ⟨rfl,rfl⟩,hw⟩:=hrel
   · obtain ⟨w2,ew⟩:∃ w2,w2=wr:=⟨_,rfl⟩
     subst ew
     have hb:=HB.out.trans (hw.mono HB.out.size)
     have a0:=zB hw HA.out
     have x0:w2.cell? ⟨_,0,none⟩=some (Value.string t0):=zA a0
     have x1:w2.cell? ⟨_,1,none⟩=some (Value.string t1):=zA a0
     have y4:=zC hw YY4.out
     have y5:=zC hw YY5.out
     go_upto_region 5 with fail
     have zx0:=zR x0
     have zx1:=zR x1
     have zy4:=zR y4
     have zy5:=zR y5
     have RR:=Lib.hid (fun d os=>Calls.regrown_of (C2.out (Sort.grow (redrawn w2 d) os) (R.below (hb.trans ((below_regrown w2 d os).mono hb.size)))))
     refine wp_region_quiet_below (by first | assumption | kernel_rfl) (by kernel_rfl) ?_
     repeat (quiet_step (first | (with_reducible exact RR.out _ _)))
     refine wpQuiet_nil ?_
     intro _ hw'
     obtain ⟨⟨dq,osq⟩,hw''⟩:=hw'
     subst hw''
     replace hb:=hb.trans ((below_regrown w2 dq osq).mono hb.size)
     replace hw:=hw.trans ((below_regrown w2 dq osq).mono hw.size)
     clear RR zx0 zx1 zy4 zy5 a0 x0 x1 y4 y5
     obtain ⟨w3,hw2⟩:∃ w3,Sort.grow (redrawn w2 dq) osq=w3:=⟨_,rfl⟩
     rw [hw2] at hb hw ⊢
     clear hw2
     go_wp2
     go_roundw
     case rel=>exact ⟨Or.inr (Or.inl ⟨rfl,rfl⟩),hw⟩
     case measure=>simp [intOf]
   · obtain ⟨w2,ew⟩:∃ w2,w2=wr:=⟨_,rfl⟩
     subst ew
     have hb:=HB.out.trans (hw.mono HB.out.size)
     have a0:=zB hw HA.out
     have x0:w2.cell? ⟨_,0,none⟩=some (Value.string t0):=zA a0
     have x1:w2.cell? ⟨_,1,none⟩=some (Value.string t1):=zA a0
     have y2:=zC hw YY2.out
     have y3:=zC hw YY3.out
     go_upto_region 5 with fail
     have zx0:=zR x0
     have zx1:=zR x1
     have zy2:=zR y2
     have zy3:=zR y3
     have RR:=Lib.hid (fun d os=>Calls.regrown_of (C1.out (Sort.grow (redrawn w2 d) os) (R.below (hb.trans ((below_regrown w2 d os).mono hb.size)))))
     refine wp_region_quiet_below (by first | assumption | kernel_rfl) (by kernel_rfl) ?_
     repeat (quiet_step (first | (with_reducible exact RR.out _ _)))
     refine wpQuiet_nil ?_
     intro _ hw'
     obtain ⟨⟨dq,osq⟩,hw''⟩:=hw'
     subst hw''
     replace hb:=hb.trans ((below_regrown w2 dq osq).mono hb.size)
     replace hw:=hw.trans ((below_regrown w2 dq osq).mono hw.size)
     clear RR zx0 zx1 zy2 zy3 a0 x0 x1 y2 y3
     obtain ⟨w3,hw2⟩:∃ w3,Sort.grow (redrawn w2 dq) osq=w3:=⟨_,rfl⟩
     rw [hw2] at hb hw ⊢
     clear hw2
     go_wp2
     go_roundw
     case rel=>exact ⟨Or.inr (Or.inr (Or.inl ⟨rfl,rfl⟩)),hw⟩
     case measure=>simp [intOf]
   · obtain ⟨w2,ew⟩:∃ w2,w2=wr:=⟨_,rfl⟩
     subst ew
     have hb:=HB.out.trans (hw.mono HB.out.size)
     have a0:=zB hw HA.out
     have x0:w2.cell? ⟨_,0,none⟩=some (Value.string t0):=zA a0
     have x1:w2.cell? ⟨_,1,none⟩=some (Value.string t1):=zA a0
     have y0:=zC hw YY0.out
     have y1:=zC hw YY1.out
     go_upto_region 5 with fail
     have zx0:=zR x0
     have zx1:=zR x1
     have zy0:=zR y0
     have zy1:=zR y1
     have RR:=Lib.hid (fun d os=>Calls.regrown_of (C0.out (Sort.grow (redrawn w2 d) os) (R.below (hb.trans ((below_regrown w2 d os).mono hb.size)))))
     refine wp_region_quiet_below (by first | assumption | kernel_rfl) (by kernel_rfl) ?_
     repeat (quiet_step (first | (with_reducible exact RR.out _ _)))
     refine wpQuiet_nil ?_
     intro _ hw'
     obtain ⟨⟨dq,osq⟩,hw''⟩:=hw'
     subst hw''
     replace hb:=hb.trans ((below_regrown w2 dq osq).mono hb.size)
     replace hw:=hw.trans ((below_regrown w2 dq osq).mono hw.size)
     clear RR zx0 zx1 zy0 zy1 a0 x0 x1 y0 y1
     obtain ⟨w3,hw2⟩:∃ w3,Sort.grow (redrawn w2 dq) osq=w3:=⟨_,rfl⟩
     rw [hw2] at hb hw ⊢
     clear hw2
     go_wp2
     go_roundw
     case rel=>exact ⟨Or.inr (Or.inr (Or.inr (⟨rfl,rfl⟩))),hw⟩
     case measure=>simp [intOf]
   · obtain ⟨w2,ew⟩:∃ w2,w2=wr:=⟨_,rfl⟩
     subst ew
     have hb:=HB.out.trans (hw.mono HB.out.size)
     have a0:=zB hw HA.out
     have x0:w2.cell? ⟨_,0,none⟩=some (Value.string t0):=zA a0
     have x1:w2.cell? ⟨_,1,none⟩=some (Value.string t1):=zA a0
     have y0:=zC hw YY0.out
     have y1:=zC hw YY1.out
     go_upto_region 8 with fail
     have zx0:=zR x0
     have zx1:=zR x1
     have zy0:=zR y0
     have zy1:=zR y1
     have RR:=Lib.hid (fun d os=>Calls.regrown_of (C0.out (Sort.grow (redrawn w2 d) os) (R.below (hb.trans ((below_regrown w2 d os).mono hb.size)))))
     refine wp_region_quiet_below (by first | assumption | kernel_rfl) (by kernel_rfl) ?_
     repeat (quiet_step (first | (with_reducible exact RR.out _ _)))
     refine wpQuiet_nil ?_
     intro _ hw'
     obtain ⟨⟨dq,osq⟩,hw''⟩:=hw'
     subst hw''
     replace hb:=hb.trans ((below_regrown w2 dq osq).mono hb.size)
     replace hw:=hw.trans ((below_regrown w2 dq osq).mono hw.size)
     clear RR zx0 zx1 zy0 zy1 a0 x0 x1 y0 y1
     obtain ⟨w3,hw2⟩:∃ w3,Sort.grow (redrawn w2 dq) osq=w3:=⟨_,rfl⟩
     rw [hw2] at hb hw ⊢
     clear hw2
     go_wp2
     first | go_ret | go_ret2 | go_ret3
     exact ⟨rfl,hb⟩
theorem bsearch_1 (blk:Nat) (t0 t1:ByteArray) (K0 K1 K2:Int) (f:Bool) (c0:CV 46 #[.agg #[.string ⟨#[48]⟩,.string ⟨#[49]⟩],.agg #[.string t0,.string t1]] (.int .i64 K0)) (c1:CV 46 #[.agg #[.string ⟨#[49]⟩,.string ⟨#[48]⟩],.agg #[.string t0,.string t1]] (.int .i64 K1)) (c2:CV 46 #[.agg #[.string ⟨#[48]⟩,.string ⟨#[45,49]⟩],.agg #[.string t0,.string t1]] (.int .i64 K2)) (g0:decide (K0 < 0)=true) (g1:decide (K1 < 0)=false) (g2:decide (K2 < 0)=false) (ge:(K1 == 0)=f) (w:World) (R:EnvV w) (y0:w.cell? ⟨blk,0,none⟩=some (.string ⟨#[48]⟩)) (y1:w.cell? ⟨blk,1,none⟩=some (.string ⟨#[49]⟩)) (y2:w.cell? ⟨blk,2,none⟩=some (.string ⟨#[49]⟩)) (y3:w.cell? ⟨blk,3,none⟩=some (.string ⟨#[48]⟩)) (y4:w.cell? ⟨blk,4,none⟩=some (.string ⟨#[48]⟩)) (y5:w.cell? ⟨blk,5,none⟩=some (.string ⟨#[45,49]⟩)) (y6:w.cell? ⟨blk,6,none⟩=some (.string ⟨#[45,49]⟩)) (y7:w.cell? ⟨blk,7,none⟩=some (.string ⟨#[48]⟩)) :
   Calls Tryz.prog 57 #[.slice (some ⟨blk,0,none⟩) 4 4,.agg #[.string t0,.string t1],.func (Fn.func 46) #[] #[]] w (Ret w (.tuple #[.int .i64 1,.bool f])):=by
 have C0:=Lib.hid c0
 clear c0
 have C1:=Lib.hid c1
 clear c1
 have C2:=Lib.hid c2
 clear c2
 have Y0:=Lib.hid y0
 clear y0
 have Y1:=Lib.hid y1
 clear y1
 have Y2:=Lib.hid y2
 clear y2
 have Y3:=Lib.hid y3
 clear y3
 have Y4:=Lib.hid y4
 clear y4
 have Y5:=Lib.hid y5
 clear y5
 have Y6:=Lib.hid y6
 clear y6
 have Y7:=Lib.hid y7
 clear y7
 have hb:=Below.refl w.heap.size w
 go_enter Tryz.func57,Tryz.ntmps57
 go_upto_region 1 with fail
 refine wp_alloc1 (fun w1 a0 hk=>?_)
 have YY0:=Lib.hid (zC hk Y0.out)
 clear Y0
 have YY1:=Lib.hid (zC hk Y1.out)
 clear Y1
 have YY2:=Lib.hid (zC hk Y2.out)
 clear Y2
 have YY3:=Lib.hid (zC hk Y3.out)
 clear Y3
 have YY4:=Lib.hid (zC hk Y4.out)
 clear Y4
 have YY5:=Lib.hid (zC hk Y5.out)
 clear Y5
 have YY6:=Lib.hid (zC hk Y6.out)
 clear Y6
 have YY7:=Lib.hid (zC hk Y7.out)
 clear Y7
 replace hb:=hb.trans (hk.mono hb.size)
 clear hk
 have HA:=Lib.hid a0
 have HB:=Lib.hid hb
 clear a0 hb
 go_wp2
 go_loopw [9,10] (fun i j wr=>((i = .int .i64 0∧j = .int .i64 4)∨(i = .int .i64 0∧j = .int .i64 2)∨(i = .int .i64 0∧j = .int .i64 1)∨(i = .int .i64 1∧j = .int .i64 1))∧Below w1.heap.size w1 wr) (fun i j _=>(intOf j - intOf i).toNat)
 case atStart=>exact ⟨Or.inl ⟨rfl,rfl⟩,Below.refl _ _⟩
 case round =>
   obtain ⟨⟨rfl,rfl⟩ | ⟨rfl,rfl⟩ | ⟨rfl,rfl⟩ | ⟨rfl,rfl⟩,hw⟩:=hrel
   · obtain ⟨w2,ew⟩:∃ w2,w2=wr:=⟨_,rfl⟩
     subst ew
     have hb:=HB.out.trans (hw.mono HB.out.size)
     have a0:=zB hw HA.out
     have x0:w2.cell? ⟨_,0,none⟩=some (Value.string t0):=zA a0
     have x1:w2.cell? ⟨_,1,none⟩=some (Value.string t1):=zA a0
     have y4:=zC hw YY4.out
     have y5:=zC hw YY5.out
     go_upto_region 5 with fail
     have zx0:=zR x0
     have zx1:=zR x1
     have zy4:=zR y4
     have zy5:=zR y5
     have RR:=Lib.hid (fun d os=>Calls.regrown_of (C2.out (Sort.grow (redrawn w2 d) os) (R.below (hb.trans ((below_regrown w2 d os).mono hb.size)))))
     refine wp_region_quiet_below (by first | assumption | kernel_rfl) (by kernel_rfl) ?_
     repeat (quiet_step (first | (with_reducible exact RR.out _ _)))
     refine wpQuiet_nil ?_
     intro _ hw'
     obtain ⟨⟨dq,osq⟩,hw''⟩:=hw'
     subst hw''
     replace hb:=hb.trans ((below_regrown w2 dq osq).mono hb.size)
     replace hw:=hw.trans ((below_regrown w2 dq osq).mono hw.size)
     clear RR zx0 zx1 zy4 zy5 a0 x0 x1 y4 y5
     obtain ⟨w3,hw2⟩:∃ w3,Sort.grow (redrawn w2 dq) osq=w3:=⟨_,rfl⟩
     rw [hw2] at hb hw ⊢
     clear hw2
     go_wp2
     go_roundw
     case rel=>exact ⟨Or.inr (Or.inl ⟨rfl,rfl⟩),hw⟩
     case measure=>simp [intOf]
   · obtain ⟨w2,ew⟩:∃ w2,w2=wr:=⟨_,rfl⟩
     subst ew
     have hb:=HB.out.trans (hw.mono HB.out.size)
     have a0:=zB hw HA.out
     have x0:w2.cell? ⟨_,0,none⟩=some (Value.string t0):=zA a0
     have x1:w2.cell? ⟨_,1,none⟩=some (Value.string t1):=zA a0
     have y2:=zC hw YY2.out
     have y3:=zC hw YY3.out
     go_upto_region 5 with fail
     have zx0:=zR x0
     have zx1:=zR x1
     have zy2:=zR y2
     have zy3:=zR y3
     have RR:=Lib.hid (fun d os=>Calls.regrown_of (C1.out (Sort.grow (redrawn w2 d) os) (R.below (hb.trans ((below_regrown w2 d os).mono hb.size)))))
     refine wp_region_quiet_below (by first | assumption | kernel_rfl) (by kernel_rfl) ?_
     repeat (quiet_step (first | (with_reducible exact RR.out _ _)))
     refine wpQuiet_nil ?_
     intro _ hw'
     obtain ⟨⟨dq,osq⟩,hw''⟩:=hw'
     subst hw''
     replace hb:=hb.trans ((below_regrown w2 dq osq).mono hb.size)
     replace hw:=hw.trans ((below_regrown w2 dq osq).mono hw.size)
     clear RR zx0 zx1 zy2 zy3 a0 x0 x1 y2 y3
     obtain ⟨w3,hw2⟩:∃ w3,Sort.grow (redrawn w2 dq) osq=w3:=⟨_,rfl⟩
     rw [hw2] at hb hw ⊢
     clear hw2
     go_wp2
     go_roundw
     case rel=>exact ⟨Or.inr (Or.inr (Or.inl ⟨rfl,rfl⟩)),hw⟩
     case measure=>simp [intOf]
   · obtain ⟨w2,ew⟩:∃ w2,w2=wr:=⟨_,rfl⟩
     subst ew
     have hb:=HB.out.trans (hw.mono HB.out.size)
     have a0:=zB hw HA.out
     have x0:w2.cell? ⟨_,0,none⟩=some (Value.string t0):=zA a0
     have x1:w2.cell? ⟨_,1,none⟩=some (Value.string t1):=zA a0
     have y0:=zC hw YY0.out
     have y1:=zC hw YY1.out
     go_upto_region 5 with fail
     have zx0:=zR x0
     have zx1:=zR x1
     have zy0:=zR y0
     have zy1:=zR y1
     have RR:=Lib.hid (fun d os=>Calls.regrown_of (C0.out (Sort.grow (redrawn w2 d) os) (R.below (hb.trans ((below_regrown w2 d os).mono hb.size)))))
     refine wp_region_quiet_below (by first | assumption | kernel_rfl) (by kernel_rfl) ?_
     repeat (quiet_step (first | (with_reducible exact RR.out _ _)))
     refine wpQuiet_nil ?_
     intro _ hw'
     obtain ⟨⟨dq,osq⟩,hw''⟩:=hw'
     subst hw''
     replace hb:=hb.trans ((below_regrown w2 dq osq).mono hb.size)
     replace hw:=hw.trans ((below_regrown w2 dq osq).mono hw.size)
     clear RR zx0 zx1 zy0 zy1 a0 x0 x1 y0 y1
     obtain ⟨w3,hw2⟩:∃ w3,Sort.grow (redrawn w2 dq) osq=w3:=⟨_,rfl⟩
     rw [hw2] at hb hw ⊢
     clear hw2
     go_wp2
     go_roundw
     case rel=>exact ⟨Or.inr (Or.inr (Or.inr (⟨rfl,rfl⟩))),hw⟩
     case measure=>simp [intOf]
   · obtain ⟨w2,ew⟩:∃ w2,w2=wr:=⟨_,rfl⟩
     subst ew
     have hb:=HB.out.trans (hw.mono HB.out.size)
     have a0:=zB hw HA.out
     have x0:w2.cell? ⟨_,0,none⟩=some (Value.string t0):=zA a0
     have x1:w2.cell? ⟨_,1,none⟩=some (Value.string t1):=zA a0
     have y2:=zC hw YY2.out
     have y3:=zC hw YY3.out
     go_upto_region 8 with fail
     have zx0:=zR x0
     have zx1:=zR x1
     have zy2:=zR y2
     have zy3:=zR y3
     have RR:=Lib.hid (fun d os=>Calls.regrown_of (C1.out (Sort.grow (redrawn w2 d) os) (R.below (hb.trans ((below_regrown w2 d os).mono hb.size)))))
     refine wp_region_quiet_below (by first | assumption | kernel_rfl) (by kernel_rfl) ?_
     repeat (quiet_step (first | (with_reducible exact RR.out _ _)))
     refine wpQuiet_nil ?_
     intro _ hw'
     obtain ⟨⟨dq,osq⟩,hw''⟩:=hw'
     subst hw''
     replace hb:=hb.trans ((below_regrown w2 dq osq).mono hb.size)
     replace hw:=hw.trans ((below_regrown w2 dq osq).mono hw.size)
     clear RR zx0 zx1 zy2 zy3 a0 x0 x1 y2 y3
     obtain ⟨w3,hw2⟩:∃ w3,Sort.grow (redrawn w2 dq) osq=w3:=⟨_,rfl⟩
     rw [hw2] at hb hw ⊢
     clear hw2
     go_wp2
     first | go_ret | go_ret2 | go_ret3
     exact ⟨rfl,hb⟩
theorem bsearch_2 (blk:Nat) (t0 t1:ByteArray) (K1 K2:Int) (f:Bool) (c1:CV 46 #[.agg #[.string ⟨#[49]⟩,.string ⟨#[48]⟩],.agg #[.string t0,.string t1]] (.int .i64 K1)) (c2:CV 46 #[.agg #[.string ⟨#[48]⟩,.string ⟨#[45,49]⟩],.agg #[.string t0,.string t1]] (.int .i64 K2)) (g1:decide (K1 < 0)=true) (g2:decide (K2 < 0)=false) (ge:(K2 == 0)=f) (w:World) (R:EnvV w) (y0:w.cell? ⟨blk,0,none⟩=some (.string ⟨#[48]⟩)) (y1:w.cell? ⟨blk,1,none⟩=some (.string ⟨#[49]⟩)) (y2:w.cell? ⟨blk,2,none⟩=some (.string ⟨#[49]⟩)) (y3:w.cell? ⟨blk,3,none⟩=some (.string ⟨#[48]⟩)) (y4:w.cell? ⟨blk,4,none⟩=some (.string ⟨#[48]⟩)) (y5:w.cell? ⟨blk,5,none⟩=some (.string ⟨#[45,49]⟩)) (y6:w.cell? ⟨blk,6,none⟩=some (.string ⟨#[45,49]⟩)) (y7:w.cell? ⟨blk,7,none⟩=some (.string ⟨#[48]⟩)) :
   Calls Tryz.prog 57 #[.slice (some ⟨blk,0,none⟩) 4 4,.agg #[.string t0,.string t1],.func (Fn.func 46) #[] #[]] w (Ret w (.tuple #[.int .i64 2,.bool f])):=by
 have C1:=Lib.hid c1
 clear c1
 have C2:=Lib.hid c2
 clear c2
 have Y0:=Lib.hid y0
 clear y0
 have Y1:=Lib.hid y1
 clear y1
 have Y2:=Lib.hid y2
 clear y2
 have Y3:=Lib.hid y3
 clear y3
 have Y4:=Lib.hid y4
 clear y4
 have Y5:=Lib.hid y5
 clear y5
 have Y6:=Lib.hid y6
 clear y6
 have Y7:=Lib.hid y7
 clear y7
 have hb:=Below.refl w.heap.size w
 go_enter Tryz.func57,Tryz.ntmps57
 go_upto_region 1 with fail
 refine wp_alloc1 (fun w1 a0 hk=>?_)
 have YY0:=Lib.hid (zC hk Y0.out)
 clear Y0
 have YY1:=Lib.hid (zC hk Y1.out)
 clear Y1
 have YY2:=Lib.hid (zC hk Y2.out)
 clear Y2
 have YY3:=Lib.hid (zC hk Y3.out)
 clear Y3
 have YY4:=Lib.hid (zC hk Y4.out)
 clear Y4
 have YY5:=Lib.hid (zC hk Y5.out)
 clear Y5
 have YY6:=Lib.hid (zC hk Y6.out)
 clear Y6
 have YY7:=Lib.hid (zC hk Y7.out)
 clear Y7
 replace hb:=hb.trans (hk.mono hb.size)
 clear hk
 have HA:=Lib.hid a0
 have HB:=Lib.hid hb
 clear a0 hb
 go_wp2
 go_loopw [9,10] (fun i j wr=>((i = .int .i64 0∧j = .int .i64 4)∨(i = .int .i64 0∧j = .int .i64 2)∨(i = .int .i64 2∧j = .int .i64 2))∧Below w1.heap.size w1 wr) (fun i j _=>(intOf j - intOf i).toNat)
 case atStart=>exact ⟨Or.inl ⟨rfl,rfl⟩,Below.refl _ _⟩
 case round =>
   obtain ⟨⟨rfl,rfl⟩ | ⟨rfl,rfl⟩ | ⟨rfl,rfl⟩,hw⟩:=hrel
   · obtain ⟨w2,ew⟩:∃ w2,w2=wr:=⟨_,rfl⟩
     subst ew
     have hb:=HB.out.trans (hw.mono HB.out.size)
     have a0:=zB hw HA.out
     have x0:w2.cell? ⟨_,0,none⟩=some (Value.string t0):=zA a0
     have x1:w2.cell? ⟨_,1,none⟩=some (Value.string t1):=zA a0
     have y4:=zC hw YY4.out
     have y5:=zC hw YY5.out
     go_upto_region 5 with fail
     have zx0:=zR x0
     have zx1:=zR x1
     have zy4:=zR y4
     have zy5:=zR y5
     have RR:=Lib.hid (fun d os=>Calls.regrown_of (C2.out (Sort.grow (redrawn w2 d) os) (R.below (hb.trans ((below_regrown w2 d os).mono hb.size)))))
     refine wp_region_quiet_below (by first | assumption | kernel_rfl) (by kernel_rfl) ?_
     repeat (quiet_step (first | (with_reducible exact RR.out _ _)))
     refine wpQuiet_nil ?_
     intro _ hw'
     obtain ⟨⟨dq,osq⟩,hw''⟩:=hw'
     subst hw''
     replace hb:=hb.trans ((below_regrown w2 dq osq).mono hb.size)
     replace hw:=hw.trans ((below_regrown w2 dq osq).mono hw.size)
     clear RR zx0 zx1 zy4 zy5 a0 x0 x1 y4 y5
     obtain ⟨w3,hw2⟩:∃ w3,Sort.grow (redrawn w2 dq) osq=w3:=⟨_,rfl⟩
     rw [hw2] at hb hw ⊢
     clear hw2
     go_wp2
     go_roundw
     case rel=>exact ⟨Or.inr (Or.inl ⟨rfl,rfl⟩),hw⟩
     case measure=>simp [intOf]
   · obtain ⟨w2,ew⟩:∃ w2,w2=wr:=⟨_,rfl⟩
     subst ew
     have hb:=HB.out.trans (hw.mono HB.out.size)
     have a0:=zB hw HA.out
     have x0:w2.cell? ⟨_,0,none⟩=some (Value.string t0):=zA a0
     have x1:w2.cell? ⟨_,1,none⟩=some (Value.string t1):=zA a0
     have y2:=zC hw YY2.out
     have y3:=zC hw YY3.out
     go_upto_region 5 with fail
     have zx0:=zR x0
     have zx1:=zR x1
     have zy2:=zR y2
     have zy3:=zR y3
     have RR:=Lib.hid (fun d os=>Calls.regrown_of (C1.out (Sort.grow (redrawn w2 d) os) (R.below (hb.trans ((below_regrown w2 d os).mono hb.size)))))
     refine wp_region_quiet_below (by first | assumption | kernel_rfl) (by kernel_rfl) ?_
     repeat (quiet_step (first | (with_reducible exact RR.out _ _)))
     refine wpQuiet_nil ?_
     intro _ hw'
     obtain ⟨⟨dq,osq⟩,hw''⟩:=hw'
     subst hw''
     replace hb:=hb.trans ((below_regrown w2 dq osq).mono hb.size)
     replace hw:=hw.trans ((below_regrown w2 dq osq).mono hw.size)
     clear RR zx0 zx1 zy2 zy3 a0 x0 x1 y2 y3
     obtain ⟨w3,hw2⟩:∃ w3,Sort.grow (redrawn w2 dq) osq=w3:=⟨_,rfl⟩
     rw [hw2] at hb hw ⊢
     clear hw2
     go_wp2
     go_roundw
     case rel=>exact ⟨Or.inr (Or.inr (⟨rfl,rfl⟩)),hw⟩
     case measure=>simp [intOf]
   · obtain ⟨w2,ew⟩:∃ w2,w2=wr:=⟨_,rfl⟩
     subst ew
     have hb:=HB.out.trans (hw.mono HB.out.size)
     have a0:=zB hw HA.out
     have x0:w2.cell? ⟨_,0,none⟩=some (Value.string t0):=zA a0
     have x1:w2.cell? ⟨_,1,none⟩=some (Value.string t1):=zA a0
     have y4:=zC hw YY4.out
     have y5:=zC hw YY5.out
     go_upto_region 8 with fail
     have zx0:=zR x0
     have zx1:=zR x1
     have zy4:=zR y4
     have zy5:=zR y5
     have RR:=Lib.hid (fun d os=>Calls.regrown_of (C2.out (Sort.grow (redrawn w2 d) os) (R.below (hb.trans ((below_regrown w2 d os).mono hb.size)))))
     refine wp_region_quiet_below (by first | assumption | kernel_rfl) (by kernel_rfl) ?_
     repeat (quiet_step (first | (with_reducible exact RR.out _ _)))
     refine wpQuiet_nil ?_
     intro _ hw'
     obtain ⟨⟨dq,osq⟩,hw''⟩:=hw'
     subst hw''
     replace hb:=hb.trans ((below_regrown w2 dq osq).mono hb.size)
     replace hw:=hw.trans ((below_regrown w2 dq osq).mono hw.size)
     clear RR zx0 zx1 zy4 zy5 a0 x0 x1 y4 y5
     obtain ⟨w3,hw2⟩:∃ w3,Sort.grow (redrawn w2 dq) osq=w3:=⟨_,rfl⟩
     rw [hw2] at hb hw ⊢
     clear hw2
     go_wp2
     first | go_ret | go_ret2 | go_ret3
     exact ⟨rfl,hb⟩
theorem bsearch_3 (blk:Nat) (t0 t1:ByteArray) (K2 K3:Int) (f:Bool) (c2:CV 46 #[.agg #[.string ⟨#[48]⟩,.string ⟨#[45,49]⟩],.agg #[.string t0,.string t1]] (.int .i64 K2)) (c3:CV 46 #[.agg #[.string ⟨#[45,49]⟩,.string ⟨#[48]⟩],.agg #[.string t0,.string t1]] (.int .i64 K3)) (g2:decide (K2 < 0)=true) (g3:decide (K3 < 0)=false) (ge:(K3 == 0)=f) (w:World) (R:EnvV w) (y0:w.cell? ⟨blk,0,none⟩=some (.string ⟨#[48]⟩)) (y1:w.cell? ⟨blk,1,none⟩=some (.string ⟨#[49]⟩)) (y2:w.cell? ⟨blk,2,none⟩=some (.string ⟨#[49]⟩)) (y3:w.cell? ⟨blk,3,none⟩=some (.string ⟨#[48]⟩)) (y4:w.cell? ⟨blk,4,none⟩=some (.string ⟨#[48]⟩)) (y5:w.cell? ⟨blk,5,none⟩=some (.string ⟨#[45,49]⟩)) (y6:w.cell? ⟨blk,6,none⟩=some (.string ⟨#[45,49]⟩)) (y7:w.cell? ⟨blk,7,none⟩=some (.string ⟨#[48]⟩)) :
   Calls Tryz.prog 57 #[.slice (some ⟨blk,0,none⟩) 4 4,.agg #[.string t0,.string t1],.func (Fn.func 46) #[] #[]] w (Ret w (.tuple #[.int .i64 3,.bool f])):=by
 have C2:=Lib.hid c2
 clear c2
 have C3:=Lib.hid c3
 clear c3
 have Y0:=Lib.hid y0
 clear y0
 have Y1:=Lib.hid y1
 clear y1
 have Y2:=Lib.hid y2
 clear y2
 have Y3:=Lib.hid y3
 clear y3
 have Y4:=Lib.hid y4
 clear y4
 have Y5:=Lib.hid y5
 clear y5
 have Y6:=Lib.hid y6
 clear y6
 have Y7:=Lib.hid y7
 clear y7
 have hb:=Below.refl w.heap.size w
 go_enter Tryz.func57,Tryz.ntmps57
 go_upto_region 1 with fail
 refine wp_alloc1 (fun w1 a0 hk=>?_)
 have YY0:=Lib.hid (zC hk Y0.out)
 clear Y0
 have YY1:=Lib.hid (zC hk Y1.out)
 clear Y1
 have YY2:=Lib.hid (zC hk Y2.out)
 clear Y2
 have YY3:=Lib.hid (zC hk Y3.out)
 clear Y3
 have YY4:=Lib.hid (zC hk Y4.out)
 clear Y4
 have YY5:=Lib.hid (zC hk Y5.out)
 clear Y5
 have YY6:=Lib.hid (zC hk Y6.out)
 clear Y6
 have YY7:=Lib.hid (zC hk Y7.out)
 clear Y7
 replace hb:=hb.trans (hk.mono hb.size)
 clear hk
 have HA:=Lib.hid a0
 have HB:=Lib.hid hb
 clear a0 hb
 go_wp2
 go_loopw [9,10] (fun i j wr=>((i = .int .i64 0∧j = .int .i64 4)∨(i = .int .i64 3∧j = .int .i64 4)∨(i = .int .i64 3∧j = .int .i64 3))∧Below w1.heap.size w1 wr) (fun i j _=>(intOf j - intOf i).toNat)
 case atStart=>exact ⟨Or.inl ⟨rfl,rfl⟩,Below.refl _ _⟩
 case round =>
   obtain ⟨⟨rfl,rfl⟩ | ⟨rfl,rfl⟩ | ⟨rfl,rfl⟩,hw⟩:=hrel
   · obtain ⟨w2,ew⟩:∃ w2,w2=wr:=⟨_,rfl⟩
     subst ew
     have hb:=HB.out.trans (hw.mono HB.out.size)
     have a0:=zB hw HA.out
     have x0:w2.cell? ⟨_,0,none⟩=some (Value.string t0):=zA a0
     have x1:w2.cell? ⟨_,1,none⟩=some (Value.string t1):=zA a0
     have y4:=zC hw YY4.out
     have y5:=zC hw YY5.out
     go_upto_region 5 with fail
     have zx0:=zR x0
     have zx1:=zR x1
     have zy4:=zR y4
     have zy5:=zR y5
     have RR:=Lib.hid (fun d os=>Calls.regrown_of (C2.out (Sort.grow (redrawn w2 d) os) (R.below (hb.trans ((below_regrown w2 d os).mono hb.size)))))
     refine wp_region_quiet_below (by first | assumption | kernel_rfl) (by kernel_rfl) ?_
     repeat (quiet_step (first | (with_reducible exact RR.out _ _)))
     refine wpQuiet_nil ?_
     intro _ hw'
     obtain ⟨⟨dq,osq⟩,hw''⟩:=hw'
     subst hw''
     replace hb:=hb.trans ((below_regrown w2 dq osq).mono hb.size)
     replace hw:=hw.trans ((below_regrown w2 dq osq).mono hw.size)
     clear RR zx0 zx1 zy4 zy5 a0 x0 x1 y4 y5
     obtain ⟨w3,hw2⟩:∃ w3,Sort.grow (redrawn w2 dq) osq=w3:=⟨_,rfl⟩
     rw [hw2] at hb hw ⊢
     clear hw2
     go_wp2
     go_roundw
     case rel=>exact ⟨Or.inr (Or.inl ⟨rfl,rfl⟩),hw⟩
     case measure=>simp [intOf]
   · obtain ⟨w2,ew⟩:∃ w2,w2=wr:=⟨_,rfl⟩
     subst ew
     have hb:=HB.out.trans (hw.mono HB.out.size)
     have a0:=zB hw HA.out
     have x0:w2.cell? ⟨_,0,none⟩=some (Value.string t0):=zA a0
     have x1:w2.cell? ⟨_,1,none⟩=some (Value.string t1):=zA a0
     have y6:=zC hw YY6.out
     have y7:=zC hw YY7.out
     go_upto_region 5 with fail
     have zx0:=zR x0
     have zx1:=zR x1
     have zy6:=zR y6
     have zy7:=zR y7
     have RR:=Lib.hid (fun d os=>Calls.regrown_of (C3.out (Sort.grow (redrawn w2 d) os) (R.below (hb.trans ((below_regrown w2 d os).mono hb.size)))))
     refine wp_region_quiet_below (by first | assumption | kernel_rfl) (by kernel_rfl) ?_
     repeat (quiet_step (first | (with_reducible exact RR.out _ _)))
     refine wpQuiet_nil ?_
     intro _ hw'
     obtain ⟨⟨dq,osq⟩,hw''⟩:=hw'
     subst hw''
     replace hb:=hb.trans ((below_regrown w2 dq osq).mono hb.size)
     replace hw:=hw.trans ((below_regrown w2 dq osq).mono hw.size)
     clear RR zx0 zx1 zy6 zy7 a0 x0 x1 y6 y7
     obtain ⟨w3,hw2⟩:∃ w3,Sort.grow (redrawn w2 dq) osq=w3:=⟨_,rfl⟩
     rw [hw2] at hb hw ⊢
     clear hw2
     go_wp2
     go_roundw
     case rel=>exact ⟨Or.inr (Or.inr (⟨rfl,rfl⟩)),hw⟩
     case measure=>simp [intOf]
   · obtain ⟨w2,ew⟩:∃ w2,w2=wr:=⟨_,rfl⟩
     subst ew
     have hb:=HB.out.trans (hw.mono HB.out.size)
     have a0:=zB hw HA.out
     have x0:w2.cell? ⟨_,0,none⟩=some (Value.string t0):=zA a0
     have x1:w2.cell? ⟨_,1,none⟩=some (Value.string t1):=zA a0
     have y6:=zC hw YY6.out
     have y7:=zC hw YY7.out
     go_upto_region 8 with fail
     have zx0:=zR x0
     have zx1:=zR x1
     have zy6:=zR y6
     have zy7:=zR y7
     have RR:=Lib.hid (fun d os=>Calls.regrown_of (C3.out (Sort.grow (redrawn w2 d) os) (R.below (hb.trans ((below_regrown w2 d os).mono hb.size)))))
     refine wp_region_quiet_below (by first | assumption | kernel_rfl) (by kernel_rfl) ?_
     repeat (quiet_step (first | (with_reducible exact RR.out _ _)))
     refine wpQuiet_nil ?_
     intro _ hw'
     obtain ⟨⟨dq,osq⟩,hw''⟩:=hw'
     subst hw''
     replace hb:=hb.trans ((below_regrown w2 dq osq).mono hb.size)
     replace hw:=hw.trans ((below_regrown w2 dq osq).mono hw.size)
     clear RR zx0 zx1 zy6 zy7 a0 x0 x1 y6 y7
     obtain ⟨w3,hw2⟩:∃ w3,Sort.grow (redrawn w2 dq) osq=w3:=⟨_,rfl⟩
     rw [hw2] at hb hw ⊢
     clear hw2
     go_wp2
     first | go_ret | go_ret2 | go_ret3
     exact ⟨rfl,hb⟩
theorem bsearch_4 (blk:Nat) (t0 t1:ByteArray) (K2 K3:Int) (c2:CV 46 #[.agg #[.string ⟨#[48]⟩,.string ⟨#[45,49]⟩],.agg #[.string t0,.string t1]] (.int .i64 K2)) (c3:CV 46 #[.agg #[.string ⟨#[45,49]⟩,.string ⟨#[48]⟩],.agg #[.string t0,.string t1]] (.int .i64 K3)) (g2:decide (K2 < 0)=true) (g3:decide (K3 < 0)=true) (w:World) (R:EnvV w) (y0:w.cell? ⟨blk,0,none⟩=some (.string ⟨#[48]⟩)) (y1:w.cell? ⟨blk,1,none⟩=some (.string ⟨#[49]⟩)) (y2:w.cell? ⟨blk,2,none⟩=some (.string ⟨#[49]⟩)) (y3:w.cell? ⟨blk,3,none⟩=some (.string ⟨#[48]⟩)) (y4:w.cell? ⟨blk,4,none⟩=some (.string ⟨#[48]⟩)) (y5:w.cell? ⟨blk,5,none⟩=some (.string ⟨#[45,49]⟩)) (y6:w.cell? ⟨blk,6,none⟩=some (.string ⟨#[45,49]⟩)) (y7:w.cell? ⟨blk,7,none⟩=some (.string ⟨#[48]⟩)) :
   Calls Tryz.prog 57 #[.slice (some ⟨blk,0,none⟩) 4 4,.agg #[.string t0,.string t1],.func (Fn.func 46) #[] #[]] w (Ret w (.tuple #[.int .i64 4,.bool false])):=by
 have C2:=Lib.hid c2
 clear c2
 have C3:=Lib.hid c3
 clear c3
 have Y0:=Lib.hid y0
 clear y0
 have Y1:=Lib.hid y1
 clear y1
 have Y2:=Lib.hid y2
 clear y2
 have Y3:=Lib.hid y3
 clear y3
 have Y4:=Lib.hid y4
 clear y4
 have Y5:=Lib.hid y5
 clear y5
 have Y6:=Lib.hid y6
 clear y6
 have Y7:=Lib.hid y7
 clear y7
 have hb:=Below.refl w.heap.size w
 go_enter Tryz.func57,Tryz.ntmps57
 go_upto_region 1 with fail
 refine wp_alloc1 (fun w1 a0 hk=>?_)
 have YY0:=Lib.hid (zC hk Y0.out)
 clear Y0
 have YY1:=Lib.hid (zC hk Y1.out)
 clear Y1
 have YY2:=Lib.hid (zC hk Y2.out)
 clear Y2
 have YY3:=Lib.hid (zC hk Y3.out)
 clear Y3
 have YY4:=Lib.hid (zC hk Y4.out)
 clear Y4
 have YY5:=Lib.hid (zC hk Y5.out)
 clear Y5
 have YY6:=Lib.hid (zC hk Y6.out)
 clear Y6
 have YY7:=Lib.hid (zC hk Y7.out)
 clear Y7
 replace hb:=hb.trans (hk.mono hb.size)
 clear hk
 have HA:=Lib.hid a0
 have HB:=Lib.hid hb
 clear a0 hb
 go_wp2
 go_loopw [9,10] (fun i j wr=>((i = .int .i64 0∧j = .int .i64 4)∨(i = .int .i64 3∧j = .int .i64 4)∨(i = .int .i64 4∧j = .int .i64 4))∧Below w1.heap.size w1 wr) (fun i j _=>(intOf j - intOf i).toNat)
 case atStart=>exact ⟨Or.inl ⟨rfl,rfl⟩,Below.refl _ _⟩
 case round =>
   obtain ⟨⟨rfl,rfl⟩ | ⟨rfl,rfl⟩ | ⟨rfl,rfl⟩,hw⟩:=hrel
   · obtain ⟨w2,ew⟩:∃ w2,w2=wr:=⟨_,rfl⟩
     subst ew
     have hb:=HB.out.trans (hw.mono HB.out.size)
     have a0:=zB hw HA.out
     have x0:w2.cell? ⟨_,0,none⟩=some (Value.string t0):=zA a0
     have x1:w2.cell? ⟨_,1,none⟩=some (Value.string t1):=zA a0
     have y4:=zC hw YY4.out
     have y5:=zC hw YY5.out
     go_upto_region 5 with fail
     have zx0:=zR x0
     have zx1:=zR x1
     have zy4:=zR y4
     have zy5:=zR y5
     have RR:=Lib.hid (fun d os=>Calls.regrown_of (C2.out (Sort.grow (redrawn w2 d) os) (R.below (hb.trans ((below_regrown w2 d os).mono hb.size)))))
     refine wp_region_quiet_below (by first | assumption | kernel_rfl) (by kernel_rfl) ?_
     repeat (quiet_step (first | (with_reducible exact RR.out _ _)))
     refine wpQuiet_nil ?_
     intro _ hw'
     obtain ⟨⟨dq,osq⟩,hw''⟩:=hw'
     subst hw''
     replace hb:=hb.trans ((below_regrown w2 dq osq).mono hb.size)
     replace hw:=hw.trans ((below_regrown w2 dq osq).mono hw.size)
     clear RR zx0 zx1 zy4 zy5 a0 x0 x1 y4 y5
     obtain ⟨w3,hw2⟩:∃ w3,Sort.grow (redrawn w2 dq) osq=w3:=⟨_,rfl⟩
     rw [hw2] at hb hw ⊢
     clear hw2
     go_wp2
     go_roundw
     case rel=>exact ⟨Or.inr (Or.inl ⟨rfl,rfl⟩),hw⟩
     case measure=>simp [intOf]
   · obtain ⟨w2,ew⟩:∃ w2,w2=wr:=⟨_,rfl⟩
     subst ew
     have hb:=HB.out.trans (hw.mono HB.out.size)
     have a0:=zB hw HA.out
     have x0:w2.cell? ⟨_,0,none⟩=some (Value.string t0):=zA a0
     have x1:w2.cell? ⟨_,1,none⟩=some (Value.string t1):=zA a0
     have y6:=zC hw YY6.out
     have y7:=zC hw YY7.out
     go_upto_region 5 with fail
     have zx0:=zR x0
     have zx1:=zR x1
     have zy6:=zR y6
     have zy7:=zR y7
     have RR:=Lib.hid (fun d os=>Calls.regrown_of (C3.out (Sort.grow (redrawn w2 d) os) (R.below (hb.trans ((below_regrown w2 d os).mono hb.size)))))
     refine wp_region_quiet_below (by first | assumption | kernel_rfl) (by kernel_rfl) ?_
     repeat (quiet_step (first | (with_reducible exact RR.out _ _)))
     refine wpQuiet_nil ?_
     intro _ hw'
     obtain ⟨⟨dq,osq⟩,hw''⟩:=hw'
     subst hw''
     replace hb:=hb.trans ((below_regrown w2 dq osq).mono hb.size)
     replace hw:=hw.trans ((below_regrown w2 dq osq).mono hw.size)
     clear RR zx0 zx1 zy6 zy7 a0 x0 x1 y6 y7
     obtain ⟨w3,hw2⟩:∃ w3,Sort.grow (redrawn w2 dq) osq=w3:=⟨_,rfl⟩
     rw [hw2] at hb hw ⊢
     clear hw2
     go_wp2
     go_roundw
     case rel=>exact ⟨Or.inr (Or.inr (⟨rfl,rfl⟩)),hw⟩
     case measure=>simp [intOf]
   · obtain ⟨w2,ew⟩:∃ w2,w2=wr:=⟨_,rfl⟩
     subst ew
     have hb:=HB.out.trans (hw.mono HB.out.size)
     have a0:=zB hw HA.out
     have x0:w2.cell? ⟨_,0,none⟩=some (Value.string t0):=zA a0
     have x1:w2.cell? ⟨_,1,none⟩=some (Value.string t1):=zA a0
     go_upto_region 8 with fail
     clear a0 x0 x1
     refine wp_region_quiet_below (by first | assumption | kernel_rfl) (by kernel_rfl) ?_
     repeat (quiet_step (first | fail))
     refine wpQuiet_nil ?_
     intro _ hw'
     obtain ⟨⟨dq,osq⟩,hw''⟩:=hw'
     subst hw''
     replace hb:=hb.trans ((below_regrown w2 dq osq).mono hb.size)
     obtain ⟨w3,hw2⟩:∃ w3,Sort.grow (redrawn w2 dq) osq=w3:=⟨_,rfl⟩
     rw [hw2] at hb ⊢
     clear hw2
     go_wp2
     first | go_ret | go_ret2 | go_ret3
     exact ⟨rfl,hb⟩
end Go.Proofs.YtpiiclmkbplkhaaGreatDoor.Kl
