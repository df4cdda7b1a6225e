import Derived.Test.YtejfiegmdllfbaaGreatDoorKlShelf
import Derived.Test.YtejfiegmdllfbaaGreatDoorKlAOrdersAtA
import Derived.Test.YtejfiegmdllfbaaGreatDoorKlBAtK
namespace Go.Proofs.YtejfiegmdllfbaaGreatDoor.Kl
open Go Go.RowKit
set_option maxRecDepth 100000
set_option maxHeartbeats 8000000
theorem isBack_0  (k:Int) (t:ByteArray) (hm:k.tmod 2=0) (hk:0≤k∧k≤7) (w:World) (_R:EnvV w) :
   Calls Tryz.prog 71 #[.agg #[.int .i64 k,.string t]] w (Ret w (.bool false)):=by
 have gm:k.tmod 2=0:=hm
 have gk:0≤k∧k≤7:=hk
 clear hm hk
 have hb:=Below.refl w.heap.size w
 go_enter Tryz.func71,Tryz.ntmps71
 go_upto_region 1 with fail
 refine wp_alloc1 (fun w1 a0 hk=>?_)
 replace hb:=hb.trans (hk.mono hb.size)
 clear hk
 obtain ⟨Aa,Ab⟩:=ce2 a0
 go_wp2
 first | go_ret | go_ret2 | go_ret3
 exact ⟨rfl,hb⟩
theorem isBack_1  (k:Int) (t:ByteArray) (hm:k.tmod 2=1) (hk:0≤k∧k≤7) (w:World) (_R:EnvV w) :
   Calls Tryz.prog 71 #[.agg #[.int .i64 k,.string t]] w (Ret w (.bool true)):=by
 have gm:k.tmod 2=1:=hm
 have gk:0≤k∧k≤7:=hk
 clear hm hk
 have hb:=Below.refl w.heap.size w
 go_enter Tryz.func71,Tryz.ntmps71
 go_upto_region 1 with fail
 refine wp_alloc1 (fun w1 a0 hk=>?_)
 replace hb:=hb.trans (hk.mono hb.size)
 clear hk
 obtain ⟨Aa,Ab⟩:=ce2 a0
 go_wp2
 first | go_ret | go_ret2 | go_ret3
 exact ⟨rfl,hb⟩
theorem ckp_neg  (k:Int) (t:ByteArray) (hk:k < 0) (w:World) (_R:EnvV w) :
   Calls Tryz.prog 69 #[.agg #[.int .i64 k,.string t]] w (Ret w (.int .i64 3)):=by
 have gk:k < 0:=hk
 clear hk
 have hb:=Below.refl w.heap.size w
 go_enter Tryz.func69,Tryz.ntmps69
 go_upto_region 1 with fail
 refine wp_alloc1 (fun w1 a0 hk=>?_)
 replace hb:=hb.trans (hk.mono hb.size)
 clear hk
 obtain ⟨Aa,Ab⟩:=ce2 a0
 go_wp2
 first | go_ret | go_ret2 | go_ret3
 exact ⟨rfl,hb⟩
theorem ckl_neg  (k:Int) (t:ByteArray) (hk:k < 0) (w:World) (_R:EnvV w) :
   Calls Tryz.prog 30 #[.agg #[.int .i64 k,.string t]] w (Ret w (.int .i64 3)):=by
 have gk:k < 0:=hk
 clear hk
 have hb:=Below.refl w.heap.size w
 go_enter Tryz.func30,Tryz.ntmps30
 go_upto_region 1 with fail
 refine wp_alloc1 (fun w1 a0 hk=>?_)
 replace hb:=hb.trans (hk.mono hb.size)
 clear hk
 obtain ⟨Aa,Ab⟩:=ce2 a0
 go_wp2
 first | go_ret | go_ret2 | go_ret3
 exact ⟨rfl,hb⟩
theorem ckp_big  (k:Int) (t:ByteArray) (hk:7 < k) (w:World) (_R:EnvV w) :
   Calls Tryz.prog 69 #[.agg #[.int .i64 k,.string t]] w (Ret w (.int .i64 3)):=by
 have gk:7 < k:=hk
 clear hk
 have hb:=Below.refl w.heap.size w
 go_enter Tryz.func69,Tryz.ntmps69
 go_upto_region 1 with fail
 refine wp_alloc1 (fun w1 a0 hk=>?_)
 replace hb:=hb.trans (hk.mono hb.size)
 clear hk
 obtain ⟨Aa,Ab⟩:=ce2 a0
 go_wp2
 first | go_ret | go_ret2 | go_ret3
 exact ⟨rfl,hb⟩
theorem ckl_big  (k:Int) (t:ByteArray) (hk:7 < k) (w:World) (_R:EnvV w) :
   Calls Tryz.prog 30 #[.agg #[.int .i64 k,.string t]] w (Ret w (.int .i64 3)):=by
 have gk:7 < k:=hk
 clear hk
 have hb:=Below.refl w.heap.size w
 go_enter Tryz.func30,Tryz.ntmps30
 go_upto_region 1 with fail
 refine wp_alloc1 (fun w1 a0 hk=>?_)
 replace hb:=hb.trans (hk.mono hb.size)
 clear hk
 obtain ⟨Aa,Ab⟩:=ce2 a0
 go_wp2
 first | go_ret | go_ret2 | go_ret3
 exact ⟨rfl,hb⟩
theorem ckp_bad  (k:Int) (t:ByteArray) (hk:0≤k∧k≤7) (hr:¬ IsRat t.data.toList) (zt:t.size≤100000) (w:World) (R:EnvV w) :
   Calls Tryz.prog 69 #[.agg #[.int .i64 k,.string t]] w (Ret w (.int .i64 2)):=by
 have c1:=fun (w:World) (R:EnvV w)=>rcheck_any t 2 (Or.inr ⟨hr,rfl⟩) zt w R.toEnvR
 have gk:0≤k∧k≤7:=hk
 have C1:=Lib.hid c1
 clear c1 hk hr zt
 have hb:=Below.refl w.heap.size w
 go_enter Tryz.func69,Tryz.ntmps69
 go_upto_region 1 with fail
 refine wp_alloc1 (fun w1 a0 hk=>?_)
 replace hb:=hb.trans (hk.mono hb.size)
 clear hk
 obtain ⟨Aa,Ab⟩:=ce2 a0
 go_wp2_with (go_at_call 78;with_reducible refine (chVB hb R C1).mono ?_;clear hb;rintro e w1 ⟨rfl,hk,hb⟩;clear Aa Ab;replace a0:=zB hk a0;obtain ⟨Aa,Ab⟩:=ce2 a0;clear hk)
 first | go_ret | go_ret2 | go_ret3
 exact ⟨rfl,hb⟩
theorem ckl_bad  (k:Int) (t:ByteArray) (hk:0≤k∧k≤7) (hr:¬ IsRat t.data.toList) (zt:t.size≤100000) (w:World) (R:EnvV w) :
   Calls Tryz.prog 30 #[.agg #[.int .i64 k,.string t]] w (Ret w (.int .i64 2)):=by
 have c1:=right1 t false ⟨(fun h=>by cases h),fun k=>absurd k hr⟩ zt
 have gk:0≤k∧k≤7:=hk
 have C1:=Lib.hid c1
 clear c1 hk hr zt
 have hb:=Below.refl w.heap.size w
 go_enter Tryz.func30,Tryz.ntmps30
 go_upto_region 1 with fail
 refine wp_alloc1 (fun w1 a0 hk=>?_)
 replace hb:=hb.trans (hk.mono hb.size)
 clear hk
 obtain ⟨Aa,Ab⟩:=ce2 a0
 go_wp2_with (go_at_call 21;with_reducible refine (zL hb (C1.out _ (R.below hb))).mono ?_;clear hb;rintro e w1 ⟨rfl,hk,hb⟩;clear Aa Ab;replace a0:=zB hk a0;obtain ⟨Aa,Ab⟩:=ce2 a0;clear hk)
 first | go_ret | go_ret2 | go_ret3
 exact ⟨rfl,hb⟩
theorem ckp_0nn  (k:Int) (a:Rat) (na:RN a 24 24) (hm:k.tmod 2=0) (hk:0≤k∧k≤7) (hl:a.num.sign < 0) (hh:(a - (1:Rat)).num.sign < 0) (w:World) (R:EnvV w) :
   Calls Tryz.prog 69 #[.agg #[.int .i64 k,.string (ratB a)]] w (Ret w (.int .i64 3)):=by
 have Ac:=na.rl (K:=100000)
 have c1:=fun (w:World) (R:EnvV w)=>rcheck_any (ratB a) 0 (Or.inl ⟨isRat_of (na.rl (K:=200)),rfl⟩) (Nat.le_trans (size_of_RL (na.rl (K:=200))) (by decide)) w R.toEnvR
 have c2:=fun (w:World) (R:EnvV w)=>rsign_any a Ac w R.toEnvR
 have c3:CV 31 #[.string (ratB a),.string ⟨#[49]⟩] (.int .i64 (a - (1:Rat)).num.sign):=fun w R=>(by have h:=rcompare_any a (1:Rat) na.rm (RN.rl (K:=10000) rn_1) w R.toEnvR;simp only [rb_1] at h;exact h)
 have c4:=isBack_0 k (ratB a) hm hk
 have gm:k.tmod 2=0:=hm
 have gk:0≤k∧k≤7:=hk
 have gl:a.num.sign < 0:=hl
 have gh:(a - (1:Rat)).num.sign < 0:=hh
 have el:(a.num.sign == 0)=false:=beq_eq_false_iff_ne.2 (by omega)
 have eh:((a - (1:Rat)).num.sign == 0)=false:=beq_eq_false_iff_ne.2 (by omega)
 obtain ⟨Ai,Ad⟩:∃ vq,ratB a=vq:=⟨_,rfl⟩
 try simp only [Ad] at c1 c2 c3 c4 gm gk gl gh el eh ⊢
 obtain ⟨lo,elo⟩:∃ vq,a.num.sign=vq:=⟨_,rfl⟩
 try simp only [elo] at c1 c2 c3 c4 gm gk gl gh el eh ⊢
 obtain ⟨hi,ehi⟩:∃ vq,(a - (1:Rat)).num.sign=vq:=⟨_,rfl⟩
 try simp only [ehi] at c1 c2 c3 c4 gm gk gl gh el eh ⊢
 have C1:=Lib.hid c1
 have C2:=Lib.hid c2
 have C3:=Lib.hid c3
 have C4:=Lib.hid c4
 clear c1 c2 c3 c4 Ad elo ehi Ac na hm hk hl hh
 have hb:=Below.refl w.heap.size w
 go_enter Tryz.func69,Tryz.ntmps69
 go_upto_region 1 with fail
 refine wp_alloc1 (fun w1 a0 hk=>?_)
 replace hb:=hb.trans (hk.mono hb.size)
 clear hk
 obtain ⟨Aa,Ab⟩:=ce2 a0
 go_upto_region 6 with (go_at_call 78;with_reducible refine (chVB hb R C1).mono ?_;clear hb;rintro e w1 ⟨rfl,hk,hb⟩;clear Aa Ab;replace a0:=zB hk a0;obtain ⟨Aa,Ab⟩:=ce2 a0;clear hk)
 obtain ⟨Ag,Ah⟩:=cy2 a0
 have Ae:=rrV C2 R hb
 have Af:=rrV C3 R hb
 refine wp_region_quiet_below (by first | assumption | kernel_rfl) (by kernel_rfl) ?_
 repeat (quiet_step (first | (with_reducible exact Ae.out _ _) | (with_reducible exact Af.out _ _)))
 refine wpQuiet_nil ?_
 intro w1 hw'
 obtain ⟨hk,hb⟩:=zQ hb hw'
 clear Aa Ab
 replace a0:=zB hk a0
 obtain ⟨Aa,Ab⟩:=ce2 a0
 clear Ae Af Ag Ah
 clear hk hw'
 go_wp2_with (go_at_call 71;with_reducible refine (chVB hb R C4).mono ?_;clear hb;rintro e w1 ⟨rfl,hk,hb⟩;clear Aa Ab;replace a0:=zB hk a0;obtain ⟨Aa,Ab⟩:=ce2 a0;clear hk)
 first | go_ret | go_ret2 | go_ret3
 exact ⟨rfl,hb⟩
theorem ckl_0nn  (k:Int) (a:Rat) (na:RN a 24 24) (hm:k.tmod 2=0) (hk:0≤k∧k≤7) (hl:a.num.sign < 0) (hh:(a - (1:Rat)).num.sign < 0) (w:World) (R:EnvV w) :
   Calls Tryz.prog 30 #[.agg #[.int .i64 k,.string (ratB a)]] w (Ret w (.int .i64 3)):=by
 have Ac:=na.rl (K:=100000)
 have c1:∀ w,EnvV w→Calls Tryz.prog 21 #[.slice (some ⟨w.heap.size,0,none⟩) 1 1] (w.alloc (Obj.cells #[Value.string (ratB a)] 22)) (Ret w (.bool true)):=fun w R=>right1 (ratB a) true ⟨fun _=>isRat_of (na.rl (K:=200)),fun _=>rfl⟩ (Nat.le_trans (size_of_RL (na.rl (K:=200))) (by decide)) w R
 have c2:=fun (w:World) (R:EnvV w)=>rsign_any a Ac w R.toEnvR
 have c3:CV 31 #[.string (ratB a),.string ⟨#[49]⟩] (.int .i64 (a - (1:Rat)).num.sign):=fun w R=>(by have h:=rcompare_any a (1:Rat) na.rm (RN.rl (K:=10000) rn_1) w R.toEnvR;simp only [rb_1] at h;exact h)
 have gm:k.tmod 2=0:=hm
 have gk:0≤k∧k≤7:=hk
 have gl:a.num.sign < 0:=hl
 have gh:(a - (1:Rat)).num.sign < 0:=hh
 have el:(a.num.sign == 0)=false:=beq_eq_false_iff_ne.2 (by omega)
 have eh:((a - (1:Rat)).num.sign == 0)=false:=beq_eq_false_iff_ne.2 (by omega)
 obtain ⟨Ai,Ad⟩:∃ vq,ratB a=vq:=⟨_,rfl⟩
 try simp only [Ad] at c1 c2 c3 gm gk gl gh el eh ⊢
 obtain ⟨lo,elo⟩:∃ vq,a.num.sign=vq:=⟨_,rfl⟩
 try simp only [elo] at c1 c2 c3 gm gk gl gh el eh ⊢
 obtain ⟨hi,ehi⟩:∃ vq,(a - (1:Rat)).num.sign=vq:=⟨_,rfl⟩
 try simp only [ehi] at c1 c2 c3 gm gk gl gh el eh ⊢
 have C1:=Lib.hid c1
 have C2:=Lib.hid c2
 have C3:=Lib.hid c3
 clear c1 c2 c3 Ad elo ehi Ac na hm hk hl hh
 have hb:=Below.refl w.heap.size w
 go_enter Tryz.func30,Tryz.ntmps30
 go_upto_region 1 with fail
 refine wp_alloc1 (fun w1 a0 hk=>?_)
 replace hb:=hb.trans (hk.mono hb.size)
 clear hk
 obtain ⟨Aa,Ab⟩:=ce2 a0
 go_upto_region 5 with (go_at_call 21;with_reducible refine (zL hb (C1.out _ (R.below hb))).mono ?_;clear hb;rintro e w1 ⟨rfl,hk,hb⟩;clear Aa Ab;replace a0:=zB hk a0;obtain ⟨Aa,Ab⟩:=ce2 a0;clear hk)
 obtain ⟨Ag,Ah⟩:=cy2 a0
 have Ae:=rrV C2 R hb
 have Af:=rrV C3 R hb
 refine wp_region_quiet_below (by first | assumption | kernel_rfl) (by kernel_rfl) ?_
 repeat (quiet_step (first | (with_reducible exact Ae.out _ _) | (with_reducible exact Af.out _ _)))
 refine wpQuiet_nil ?_
 intro w1 hw'
 obtain ⟨hk,hb⟩:=zQ hb hw'
 clear Aa Ab
 replace a0:=zB hk a0
 obtain ⟨Aa,Ab⟩:=ce2 a0
 clear Ae Af Ag Ah
 clear hk hw'
 go_wp2
 first | go_ret | go_ret2 | go_ret3
 exact ⟨rfl,hb⟩
theorem ckp_0nz  (k:Int) (a:Rat) (na:RN a 24 24) (hm:k.tmod 2=0) (hk:0≤k∧k≤7) (hl:a.num.sign < 0) (hh:(a - (1:Rat)).num.sign=0) (w:World) (R:EnvV w) :
   Calls Tryz.prog 69 #[.agg #[.int .i64 k,.string (ratB a)]] w (Ret w (.int .i64 3)):=by
 have Ac:=na.rl (K:=100000)
 have c1:=fun (w:World) (R:EnvV w)=>rcheck_any (ratB a) 0 (Or.inl ⟨isRat_of (na.rl (K:=200)),rfl⟩) (Nat.le_trans (size_of_RL (na.rl (K:=200))) (by decide)) w R.toEnvR
 have c2:=fun (w:World) (R:EnvV w)=>rsign_any a Ac w R.toEnvR
 have c3:CV 31 #[.string (ratB a),.string ⟨#[49]⟩] (.int .i64 (a - (1:Rat)).num.sign):=fun w R=>(by have h:=rcompare_any a (1:Rat) na.rm (RN.rl (K:=10000) rn_1) w R.toEnvR;simp only [rb_1] at h;exact h)
 have c4:=isBack_0 k (ratB a) hm hk
 have gm:k.tmod 2=0:=hm
 have gk:0≤k∧k≤7:=hk
 have gl:a.num.sign < 0:=hl
 have gh:(a - (1:Rat)).num.sign=0:=hh
 have el:(a.num.sign == 0)=false:=beq_eq_false_iff_ne.2 (by omega)
 obtain ⟨Ai,Ad⟩:∃ vq,ratB a=vq:=⟨_,rfl⟩
 try simp only [Ad] at c1 c2 c3 c4 gm gk gl gh el ⊢
 obtain ⟨lo,elo⟩:∃ vq,a.num.sign=vq:=⟨_,rfl⟩
 try simp only [elo] at c1 c2 c3 c4 gm gk gl gh el ⊢
 obtain ⟨hi,ehi⟩:∃ vq,(a - (1:Rat)).num.sign=vq:=⟨_,rfl⟩
 try simp only [ehi] at c1 c2 c3 c4 gm gk gl gh el ⊢
 have C1:=Lib.hid c1
 have C2:=Lib.hid c2
 have C3:=Lib.hid c3
 have C4:=Lib.hid c4
 clear c1 c2 c3 c4 Ad elo ehi Ac na hm hk hl hh
 have hb:=Below.refl w.heap.size w
 go_enter Tryz.func69,Tryz.ntmps69
 go_upto_region 1 with fail
 refine wp_alloc1 (fun w1 a0 hk=>?_)
 replace hb:=hb.trans (hk.mono hb.size)
 clear hk
 obtain ⟨Aa,Ab⟩:=ce2 a0
 go_upto_region 6 with (go_at_call 78;with_reducible refine (chVB hb R C1).mono ?_;clear hb;rintro e w1 ⟨rfl,hk,hb⟩;clear Aa Ab;replace a0:=zB hk a0;obtain ⟨Aa,Ab⟩:=ce2 a0;clear hk)
 obtain ⟨Ag,Ah⟩:=cy2 a0
 have Ae:=rrV C2 R hb
 have Af:=rrV C3 R hb
 refine wp_region_quiet_below (by first | assumption | kernel_rfl) (by kernel_rfl) ?_
 repeat (quiet_step (first | (with_reducible exact Ae.out _ _) | (with_reducible exact Af.out _ _)))
 refine wpQuiet_nil ?_
 intro w1 hw'
 obtain ⟨hk,hb⟩:=zQ hb hw'
 clear Aa Ab
 replace a0:=zB hk a0
 obtain ⟨Aa,Ab⟩:=ce2 a0
 clear Ae Af Ag Ah
 clear hk hw'
 go_wp2_with (go_at_call 71;with_reducible refine (chVB hb R C4).mono ?_;clear hb;rintro e w1 ⟨rfl,hk,hb⟩;clear Aa Ab;replace a0:=zB hk a0;obtain ⟨Aa,Ab⟩:=ce2 a0;clear hk)
 first | go_ret | go_ret2 | go_ret3
 exact ⟨rfl,hb⟩
theorem ckl_0nz  (k:Int) (a:Rat) (na:RN a 24 24) (hm:k.tmod 2=0) (hk:0≤k∧k≤7) (hl:a.num.sign < 0) (hh:(a - (1:Rat)).num.sign=0) (w:World) (R:EnvV w) :
   Calls Tryz.prog 30 #[.agg #[.int .i64 k,.string (ratB a)]] w (Ret w (.int .i64 3)):=by
 have Ac:=na.rl (K:=100000)
 have c1:∀ w,EnvV w→Calls Tryz.prog 21 #[.slice (some ⟨w.heap.size,0,none⟩) 1 1] (w.alloc (Obj.cells #[Value.string (ratB a)] 22)) (Ret w (.bool true)):=fun w R=>right1 (ratB a) true ⟨fun _=>isRat_of (na.rl (K:=200)),fun _=>rfl⟩ (Nat.le_trans (size_of_RL (na.rl (K:=200))) (by decide)) w R
 have c2:=fun (w:World) (R:EnvV w)=>rsign_any a Ac w R.toEnvR
 have c3:CV 31 #[.string (ratB a),.string ⟨#[49]⟩] (.int .i64 (a - (1:Rat)).num.sign):=fun w R=>(by have h:=rcompare_any a (1:Rat) na.rm (RN.rl (K:=10000) rn_1) w R.toEnvR;simp only [rb_1] at h;exact h)
 have gm:k.tmod 2=0:=hm
 have gk:0≤k∧k≤7:=hk
 have gl:a.num.sign < 0:=hl
 have gh:(a - (1:Rat)).num.sign=0:=hh
 have el:(a.num.sign == 0)=false:=beq_eq_false_iff_ne.2 (by omega)
 obtain ⟨Ai,Ad⟩:∃ vq,ratB a=vq:=⟨_,rfl⟩
 try simp only [Ad] at c1 c2 c3 gm gk gl gh el ⊢
 obtain ⟨lo,elo⟩:∃ vq,a.num.sign=vq:=⟨_,rfl⟩
 try simp only [elo] at c1 c2 c3 gm gk gl gh el ⊢
 obtain ⟨hi,ehi⟩:∃ vq,(a - (1:Rat)).num.sign=vq:=⟨_,rfl⟩
 try simp only [ehi] at c1 c2 c3 gm gk gl gh el ⊢
 have C1:=Lib.hid c1
 have C2:=Lib.hid c2
 have C3:=Lib.hid c3
 clear c1 c2 c3 Ad elo ehi Ac na hm hk hl hh
 have hb:=Below.refl w.heap.size w
 go_enter Tryz.func30,Tryz.ntmps30
 go_upto_region 1 with fail
 refine wp_alloc1 (fun w1 a0 hk=>?_)
 replace hb:=hb.trans (hk.mono hb.size)
 clear hk
 obtain ⟨Aa,Ab⟩:=ce2 a0
 go_upto_region 5 with (go_at_call 21;with_reducible refine (zL hb (C1.out _ (R.below hb))).mono ?_;clear hb;rintro e w1 ⟨rfl,hk,hb⟩;clear Aa Ab;replace a0:=zB hk a0;obtain ⟨Aa,Ab⟩:=ce2 a0;clear hk)
 obtain ⟨Ag,Ah⟩:=cy2 a0
 have Ae:=rrV C2 R hb
 have Af:=rrV C3 R hb
 refine wp_region_quiet_below (by first | assumption | kernel_rfl) (by kernel_rfl) ?_
 repeat (quiet_step (first | (with_reducible exact Ae.out _ _) | (with_reducible exact Af.out _ _)))
 refine wpQuiet_nil ?_
 intro w1 hw'
 obtain ⟨hk,hb⟩:=zQ hb hw'
 clear Aa Ab
 replace a0:=zB hk a0
 obtain ⟨Aa,Ab⟩:=ce2 a0
 clear Ae Af Ag Ah
 clear hk hw'
 go_wp2
 first | go_ret | go_ret2 | go_ret3
 exact ⟨rfl,hb⟩
theorem ckp_0np  (k:Int) (a:Rat) (na:RN a 24 24) (hm:k.tmod 2=0) (hk:0≤k∧k≤7) (hl:a.num.sign < 0) (hh:0 < (a - (1:Rat)).num.sign) (w:World) (R:EnvV w) :
   Calls Tryz.prog 69 #[.agg #[.int .i64 k,.string (ratB a)]] w (Ret w (.int .i64 3)):=by
 have Ac:=na.rl (K:=100000)
 have c1:=fun (w:World) (R:EnvV w)=>rcheck_any (ratB a) 0 (Or.inl ⟨isRat_of (na.rl (K:=200)),rfl⟩) (Nat.le_trans (size_of_RL (na.rl (K:=200))) (by decide)) w R.toEnvR
 have c2:=fun (w:World) (R:EnvV w)=>rsign_any a Ac w R.toEnvR
 have c3:CV 31 #[.string (ratB a),.string ⟨#[49]⟩] (.int .i64 (a - (1:Rat)).num.sign):=fun w R=>(by have h:=rcompare_any a (1:Rat) na.rm (RN.rl (K:=10000) rn_1) w R.toEnvR;simp only [rb_1] at h;exact h)
 have c4:=isBack_0 k (ratB a) hm hk
 have gm:k.tmod 2=0:=hm
 have gk:0≤k∧k≤7:=hk
 have gl:a.num.sign < 0:=hl
 have gh:0 < (a - (1:Rat)).num.sign:=hh
 have el:(a.num.sign == 0)=false:=beq_eq_false_iff_ne.2 (by omega)
 have eh:((a - (1:Rat)).num.sign == 0)=false:=beq_eq_false_iff_ne.2 (by omega)
 obtain ⟨Ai,Ad⟩:∃ vq,ratB a=vq:=⟨_,rfl⟩
 try simp only [Ad] at c1 c2 c3 c4 gm gk gl gh el eh ⊢
 obtain ⟨lo,elo⟩:∃ vq,a.num.sign=vq:=⟨_,rfl⟩
 try simp only [elo] at c1 c2 c3 c4 gm gk gl gh el eh ⊢
 obtain ⟨hi,ehi⟩:∃ vq,(a - (1:Rat)).num.sign=vq:=⟨_,rfl⟩
 try simp only [ehi] at c1 c2 c3 c4 gm gk gl gh el eh ⊢
 have C1:=Lib.hid c1
 have C2:=Lib.hid c2
 have C3:=Lib.hid c3
 have C4:=Lib.hid c4
 clear c1 c2 c3 c4 Ad elo ehi Ac na hm hk hl hh
 have hb:=Below.refl w.heap.size w
 go_enter Tryz.func69,Tryz.ntmps69
 go_upto_region 1 with fail
 refine wp_alloc1 (fun w1 a0 hk=>?_)
 replace hb:=hb.trans (hk.mono hb.size)
 clear hk
 obtain ⟨Aa,Ab⟩:=ce2 a0
 go_upto_region 6 with (go_at_call 78;with_reducible refine (chVB hb R C1).mono ?_;clear hb;rintro e w1 ⟨rfl,hk,hb⟩;clear Aa Ab;replace a0:=zB hk a0;obtain ⟨Aa,Ab⟩:=ce2 a0;clear hk)
 obtain ⟨Ag,Ah⟩:=cy2 a0
 have Ae:=rrV C2 R hb
 have Af:=rrV C3 R hb
 refine wp_region_quiet_below (by first | assumption | kernel_rfl) (by kernel_rfl) ?_
 repeat (quiet_step (first | (with_reducible exact Ae.out _ _) | (with_reducible exact Af.out _ _)))
 refine wpQuiet_nil ?_
 intro w1 hw'
 obtain ⟨hk,hb⟩:=zQ hb hw'
 clear Aa Ab
 replace a0:=zB hk a0
 obtain ⟨Aa,Ab⟩:=ce2 a0
 clear Ae Af Ag Ah
 clear hk hw'
 go_wp2_with (go_at_call 71;with_reducible refine (chVB hb R C4).mono ?_;clear hb;rintro e w1 ⟨rfl,hk,hb⟩;clear Aa Ab;replace a0:=zB hk a0;obtain ⟨Aa,Ab⟩:=ce2 a0;clear hk)
 first | go_ret | go_ret2 | go_ret3
 exact ⟨rfl,hb⟩
theorem ckl_0np  (k:Int) (a:Rat) (na:RN a 24 24) (hm:k.tmod 2=0) (hk:0≤k∧k≤7) (hl:a.num.sign < 0) (hh:0 < (a - (1:Rat)).num.sign) (w:World) (R:EnvV w) :
   Calls Tryz.prog 30 #[.agg #[.int .i64 k,.string (ratB a)]] w (Ret w (.int .i64 3)):=by
 have Ac:=na.rl (K:=100000)
 have c1:∀ w,EnvV w→Calls Tryz.prog 21 #[.slice (some ⟨w.heap.size,0,none⟩) 1 1] (w.alloc (Obj.cells #[Value.string (ratB a)] 22)) (Ret w (.bool true)):=fun w R=>right1 (ratB a) true ⟨fun _=>isRat_of (na.rl (K:=200)),fun _=>rfl⟩ (Nat.le_trans (size_of_RL (na.rl (K:=200))) (by decide)) w R
 have c2:=fun (w:World) (R:EnvV w)=>rsign_any a Ac w R.toEnvR
 have c3:CV 31 #[.string (ratB a),.string ⟨#[49]⟩] (.int .i64 (a - (1:Rat)).num.sign):=fun w R=>(by have h:=rcompare_any a (1:Rat) na.rm (RN.rl (K:=10000) rn_1) w R.toEnvR;simp only [rb_1] at h;exact h)
 have gm:k.tmod 2=0:=hm
 have gk:0≤k∧k≤7:=hk
 have gl:a.num.sign < 0:=hl
 have gh:0 < (a - (1:Rat)).num.sign:=hh
 have el:(a.num.sign == 0)=false:=beq_eq_false_iff_ne.2 (by omega)
 have eh:((a - (1:Rat)).num.sign == 0)=false:=beq_eq_false_iff_ne.2 (by omega)
 obtain ⟨Ai,Ad⟩:∃ vq,ratB a=vq:=⟨_,rfl⟩
 try simp only [Ad] at c1 c2 c3 gm gk gl gh el eh ⊢
 obtain ⟨lo,elo⟩:∃ vq,a.num.sign=vq:=⟨_,rfl⟩
 try simp only [elo] at c1 c2 c3 gm gk gl gh el eh ⊢
 obtain ⟨hi,ehi⟩:∃ vq,(a - (1:Rat)).num.sign=vq:=⟨_,rfl⟩
 try simp only [ehi] at c1 c2 c3 gm gk gl gh el eh ⊢
 have C1:=Lib.hid c1
 have C2:=Lib.hid c2
 have C3:=Lib.hid c3
 clear c1 c2 c3 Ad elo ehi Ac na hm hk hl hh
 have hb:=Below.refl w.heap.size w
 go_enter Tryz.func30,Tryz.ntmps30
 go_upto_region 1 with fail
 refine wp_alloc1 (fun w1 a0 hk=>?_)
 replace hb:=hb.trans (hk.mono hb.size)
 clear hk
 obtain ⟨Aa,Ab⟩:=ce2 a0
 go_upto_region 5 with (go_at_call 21;with_reducible refine (zL hb (C1.out _ (R.below hb))).mono ?_;clear hb;rintro e w1 ⟨rfl,hk,hb⟩;clear Aa Ab;replace a0:=zB hk a0;obtain ⟨Aa,Ab⟩:=ce2 a0;clear hk)
 obtain ⟨Ag,Ah⟩:=cy2 a0
 have Ae:=rrV C2 R hb
 have Af:=rrV C3 R hb
 refine wp_region_quiet_below (by first | assumption | kernel_rfl) (by kernel_rfl) ?_
 repeat (quiet_step (first | (with_reducible exact Ae.out _ _) | (with_reducible exact Af.out _ _)))
 refine wpQuiet_nil ?_
 intro w1 hw'
 obtain ⟨hk,hb⟩:=zQ hb hw'
 clear Aa Ab
 replace a0:=zB hk a0
 obtain ⟨Aa,Ab⟩:=ce2 a0
 clear Ae Af Ag Ah
 clear hk hw'
 go_wp2
 first | go_ret | go_ret2 | go_ret3
 exact ⟨rfl,hb⟩
theorem ckp_0zn  (k:Int) (a:Rat) (na:RN a 24 24) (hm:k.tmod 2=0) (hk:0≤k∧k≤7) (hl:a.num.sign=0) (hh:(a - (1:Rat)).num.sign < 0) (w:World) (R:EnvV w) :
   Calls Tryz.prog 69 #[.agg #[.int .i64 k,.string (ratB a)]] w (Ret w (.int .i64 0)):=by
 have Ac:=na.rl (K:=100000)
 have c1:=fun (w:World) (R:EnvV w)=>rcheck_any (ratB a) 0 (Or.inl ⟨isRat_of (na.rl (K:=200)),rfl⟩) (Nat.le_trans (size_of_RL (na.rl (K:=200))) (by decide)) w R.toEnvR
 have c2:=fun (w:World) (R:EnvV w)=>rsign_any a Ac w R.toEnvR
 have c3:CV 31 #[.string (ratB a),.string ⟨#[49]⟩] (.int .i64 (a - (1:Rat)).num.sign):=fun w R=>(by have h:=rcompare_any a (1:Rat) na.rm (RN.rl (K:=10000) rn_1) w R.toEnvR;simp only [rb_1] at h;exact h)
 have c4:=isBack_0 k (ratB a) hm hk
 have gm:k.tmod 2=0:=hm
 have gk:0≤k∧k≤7:=hk
 have gl:a.num.sign=0:=hl
 have gh:(a - (1:Rat)).num.sign < 0:=hh
 have eh:((a - (1:Rat)).num.sign == 0)=false:=beq_eq_false_iff_ne.2 (by omega)
 obtain ⟨Ai,Ad⟩:∃ vq,ratB a=vq:=⟨_,rfl⟩
 try simp only [Ad] at c1 c2 c3 c4 gm gk gl gh eh ⊢
 obtain ⟨lo,elo⟩:∃ vq,a.num.sign=vq:=⟨_,rfl⟩
 try simp only [elo] at c1 c2 c3 c4 gm gk gl gh eh ⊢
 obtain ⟨hi,ehi⟩:∃ vq,(a - (1:Rat)).num.sign=vq:=⟨_,rfl⟩
 try simp only [ehi] at c1 c2 c3 c4 gm gk gl gh eh ⊢
 have C1:=Lib.hid c1
 have C2:=Lib.hid c2
 have C3:=Lib.hid c3
 have C4:=Lib.hid c4
 clear c1 c2 c3 c4 Ad elo ehi Ac na hm hk hl hh
 have hb:=Below.refl w.heap.size w
 go_enter Tryz.func69,Tryz.ntmps69
 go_upto_region 1 with fail
 refine wp_alloc1 (fun w1 a0 hk=>?_)
 replace hb:=hb.trans (hk.mono hb.size)
 clear hk
 obtain ⟨Aa,Ab⟩:=ce2 a0
 go_upto_region 6 with (go_at_call 78;with_reducible refine (chVB hb R C1).mono ?_;clear hb;rintro e w1 ⟨rfl,hk,hb⟩;clear Aa Ab;replace a0:=zB hk a0;obtain ⟨Aa,Ab⟩:=ce2 a0;clear hk)
 obtain ⟨Ag,Ah⟩:=cy2 a0
 have Ae:=rrV C2 R hb
 have Af:=rrV C3 R hb
 refine wp_region_quiet_below (by first | assumption | kernel_rfl) (by kernel_rfl) ?_
 repeat (quiet_step (first | (with_reducible exact Ae.out _ _) | (with_reducible exact Af.out _ _)))
 refine wpQuiet_nil ?_
 intro w1 hw'
 obtain ⟨hk,hb⟩:=zQ hb hw'
 clear Aa Ab
 replace a0:=zB hk a0
 obtain ⟨Aa,Ab⟩:=ce2 a0
 clear Ae Af Ag Ah
 clear hk hw'
 go_wp2_with (go_at_call 71;with_reducible refine (chVB hb R C4).mono ?_;clear hb;rintro e w1 ⟨rfl,hk,hb⟩;clear Aa Ab;replace a0:=zB hk a0;obtain ⟨Aa,Ab⟩:=ce2 a0;clear hk)
 first | go_ret | go_ret2 | go_ret3
 exact ⟨rfl,hb⟩
theorem ckl_0zn  (k:Int) (a:Rat) (na:RN a 24 24) (hm:k.tmod 2=0) (hk:0≤k∧k≤7) (hl:a.num.sign=0) (hh:(a - (1:Rat)).num.sign < 0) (w:World) (R:EnvV w) :
   Calls Tryz.prog 30 #[.agg #[.int .i64 k,.string (ratB a)]] w (Ret w (.int .i64 0)):=by
 have Ac:=na.rl (K:=100000)
 have c1:∀ w,EnvV w→Calls Tryz.prog 21 #[.slice (some ⟨w.heap.size,0,none⟩) 1 1] (w.alloc (Obj.cells #[Value.string (ratB a)] 22)) (Ret w (.bool true)):=fun w R=>right1 (ratB a) true ⟨fun _=>isRat_of (na.rl (K:=200)),fun _=>rfl⟩ (Nat.le_trans (size_of_RL (na.rl (K:=200))) (by decide)) w R
 have c2:=fun (w:World) (R:EnvV w)=>rsign_any a Ac w R.toEnvR
 have c3:CV 31 #[.string (ratB a),.string ⟨#[49]⟩] (.int .i64 (a - (1:Rat)).num.sign):=fun w R=>(by have h:=rcompare_any a (1:Rat) na.rm (RN.rl (K:=10000) rn_1) w R.toEnvR;simp only [rb_1] at h;exact h)
 have gm:k.tmod 2=0:=hm
 have gk:0≤k∧k≤7:=hk
 have gl:a.num.sign=0:=hl
 have gh:(a - (1:Rat)).num.sign < 0:=hh
 have eh:((a - (1:Rat)).num.sign == 0)=false:=beq_eq_false_iff_ne.2 (by omega)
 obtain ⟨Ai,Ad⟩:∃ vq,ratB a=vq:=⟨_,rfl⟩
 try simp only [Ad] at c1 c2 c3 gm gk gl gh eh ⊢
 obtain ⟨lo,elo⟩:∃ vq,a.num.sign=vq:=⟨_,rfl⟩
 try simp only [elo] at c1 c2 c3 gm gk gl gh eh ⊢
 obtain ⟨hi,ehi⟩:∃ vq,(a - (1:Rat)).num.sign=vq:=⟨_,rfl⟩
 try simp only [ehi] at c1 c2 c3 gm gk gl gh eh ⊢
 have C1:=Lib.hid c1
 have C2:=Lib.hid c2
 have C3:=Lib.hid c3
 clear c1 c2 c3 Ad elo ehi Ac na hm hk hl hh
 have hb:=Below.refl w.heap.size w
 go_enter Tryz.func30,Tryz.ntmps30
 go_upto_region 1 with fail
 refine wp_alloc1 (fun w1 a0 hk=>?_)
 replace hb:=hb.trans (hk.mono hb.size)
 clear hk
 obtain ⟨Aa,Ab⟩:=ce2 a0
 go_upto_region 5 with (go_at_call 21;with_reducible refine (zL hb (C1.out _ (R.below hb))).mono ?_;clear hb;rintro e w1 ⟨rfl,hk,hb⟩;clear Aa Ab;replace a0:=zB hk a0;obtain ⟨Aa,Ab⟩:=ce2 a0;clear hk)
 obtain ⟨Ag,Ah⟩:=cy2 a0
 have Ae:=rrV C2 R hb
 have Af:=rrV C3 R hb
 refine wp_region_quiet_below (by first | assumption | kernel_rfl) (by kernel_rfl) ?_
 repeat (quiet_step (first | (with_reducible exact Ae.out _ _) | (with_reducible exact Af.out _ _)))
 refine wpQuiet_nil ?_
 intro w1 hw'
 obtain ⟨hk,hb⟩:=zQ hb hw'
 clear Aa Ab
 replace a0:=zB hk a0
 obtain ⟨Aa,Ab⟩:=ce2 a0
 clear Ae Af Ag Ah
 clear hk hw'
 go_wp2
 first | go_ret | go_ret2 | go_ret3
 exact ⟨rfl,hb⟩
theorem ckp_0zz  (k:Int) (a:Rat) (na:RN a 24 24) (hm:k.tmod 2=0) (hk:0≤k∧k≤7) (hl:a.num.sign=0) (hh:(a - (1:Rat)).num.sign=0) (w:World) (R:EnvV w) :
   Calls Tryz.prog 69 #[.agg #[.int .i64 k,.string (ratB a)]] w (Ret w (.int .i64 3)):=by
 have Ac:=na.rl (K:=100000)
 have c1:=fun (w:World) (R:EnvV w)=>rcheck_any (ratB a) 0 (Or.inl ⟨isRat_of (na.rl (K:=200)),rfl⟩) (Nat.le_trans (size_of_RL (na.rl (K:=200))) (by decide)) w R.toEnvR
 have c2:=fun (w:World) (R:EnvV w)=>rsign_any a Ac w R.toEnvR
 have c3:CV 31 #[.string (ratB a),.string ⟨#[49]⟩] (.int .i64 (a - (1:Rat)).num.sign):=fun w R=>(by have h:=rcompare_any a (1:Rat) na.rm (RN.rl (K:=10000) rn_1) w R.toEnvR;simp only [rb_1] at h;exact h)
 have c4:=isBack_0 k (ratB a) hm hk
 have gm:k.tmod 2=0:=hm
 have gk:0≤k∧k≤7:=hk
 have gl:a.num.sign=0:=hl
 have gh:(a - (1:Rat)).num.sign=0:=hh
 obtain ⟨Ai,Ad⟩:∃ vq,ratB a=vq:=⟨_,rfl⟩
 try simp only [Ad] at c1 c2 c3 c4 gm gk gl gh ⊢
 obtain ⟨lo,elo⟩:∃ vq,a.num.sign=vq:=⟨_,rfl⟩
 try simp only [elo] at c1 c2 c3 c4 gm gk gl gh ⊢
 obtain ⟨hi,ehi⟩:∃ vq,(a - (1:Rat)).num.sign=vq:=⟨_,rfl⟩
 try simp only [ehi] at c1 c2 c3 c4 gm gk gl gh ⊢
 have C1:=Lib.hid c1
 have C2:=Lib.hid c2
 have C3:=Lib.hid c3
 have C4:=Lib.hid c4
 clear c1 c2 c3 c4 Ad elo ehi Ac na hm hk hl hh
 have hb:=Below.refl w.heap.size w
 go_enter Tryz.func69,Tryz.ntmps69
 go_upto_region 1 with fail
 refine wp_alloc1 (fun w1 a0 hk=>?_)
 replace hb:=hb.trans (hk.mono hb.size)
 clear hk
 obtain ⟨Aa,Ab⟩:=ce2 a0
 go_upto_region 6 with (go_at_call 78;with_reducible refine (chVB hb R C1).mono ?_;clear hb;rintro e w1 ⟨rfl,hk,hb⟩;clear Aa Ab;replace a0:=zB hk a0;obtain ⟨Aa,Ab⟩:=ce2 a0;clear hk)
 obtain ⟨Ag,Ah⟩:=cy2 a0
 have Ae:=rrV C2 R hb
 have Af:=rrV C3 R hb
 refine wp_region_quiet_below (by first | assumption | kernel_rfl) (by kernel_rfl) ?_
 repeat (quiet_step (first | (with_reducible exact Ae.out _ _) | (with_reducible exact Af.out _ _)))
 refine wpQuiet_nil ?_
 intro w1 hw'
 obtain ⟨hk,hb⟩:=zQ hb hw'
 clear Aa Ab
 replace a0:=zB hk a0
 obtain ⟨Aa,Ab⟩:=ce2 a0
 clear Ae Af Ag Ah
 clear hk hw'
 go_wp2_with (go_at_call 71;with_reducible refine (chVB hb R C4).mono ?_;clear hb;rintro e w1 ⟨rfl,hk,hb⟩;clear Aa Ab;replace a0:=zB hk a0;obtain ⟨Aa,Ab⟩:=ce2 a0;clear hk)
 first | go_ret | go_ret2 | go_ret3
 exact ⟨rfl,hb⟩
theorem ckl_0zz  (k:Int) (a:Rat) (na:RN a 24 24) (hm:k.tmod 2=0) (hk:0≤k∧k≤7) (hl:a.num.sign=0) (hh:(a - (1:Rat)).num.sign=0) (w:World) (R:EnvV w) :
   Calls Tryz.prog 30 #[.agg #[.int .i64 k,.string (ratB a)]] w (Ret w (.int .i64 3)):=by
 have Ac:=na.rl (K:=100000)
 have c1:∀ w,EnvV w→Calls Tryz.prog 21 #[.slice (some ⟨w.heap.size,0,none⟩) 1 1] (w.alloc (Obj.cells #[Value.string (ratB a)] 22)) (Ret w (.bool true)):=fun w R=>right1 (ratB a) true ⟨fun _=>isRat_of (na.rl (K:=200)),fun _=>rfl⟩ (Nat.le_trans (size_of_RL (na.rl (K:=200))) (by decide)) w R
 have c2:=fun (w:World) (R:EnvV w)=>rsign_any a Ac w R.toEnvR
 have c3:CV 31 #[.string (ratB a),.string ⟨#[49]⟩] (.int .i64 (a - (1:Rat)).num.sign):=fun w R=>(by have h:=rcompare_any a (1:Rat) na.rm (RN.rl (K:=10000) rn_1) w R.toEnvR;simp only [rb_1] at h;exact h)
 have gm:k.tmod 2=0:=hm
 have gk:0≤k∧k≤7:=hk
 have gl:a.num.sign=0:=hl
 have gh:(a - (1:Rat)).num.sign=0:=hh
 obtain ⟨Ai,Ad⟩:∃ vq,ratB a=vq:=⟨_,rfl⟩
 try simp only [Ad] at c1 c2 c3 gm gk gl gh ⊢
 obtain ⟨lo,elo⟩:∃ vq,a.num.sign=vq:=⟨_,rfl⟩
 try simp only [elo] at c1 c2 c3 gm gk gl gh ⊢
 obtain ⟨hi,ehi⟩:∃ vq,(a - (1:Rat)).num.sign=vq:=⟨_,rfl⟩
 try simp only [ehi] at c1 c2 c3 gm gk gl gh ⊢
 have C1:=Lib.hid c1
 have C2:=Lib.hid c2
 have C3:=Lib.hid c3
 clear c1 c2 c3 Ad elo ehi Ac na hm hk hl hh
 have hb:=Below.refl w.heap.size w
 go_enter Tryz.func30,Tryz.ntmps30
 go_upto_region 1 with fail
 refine wp_alloc1 (fun w1 a0 hk=>?_)
 replace hb:=hb.trans (hk.mono hb.size)
 clear hk
 obtain ⟨Aa,Ab⟩:=ce2 a0
 go_upto_region 5 with (go_at_call 21;with_reducible refine (zL hb (C1.out _ (R.below hb))).mono ?_;clear hb;rintro e w1 ⟨rfl,hk,hb⟩;clear Aa Ab;replace a0:=zB hk a0;obtain ⟨Aa,Ab⟩:=ce2 a0;clear hk)
 obtain ⟨Ag,Ah⟩:=cy2 a0
 have Ae:=rrV C2 R hb
 have Af:=rrV C3 R hb
 refine wp_region_quiet_below (by first | assumption | kernel_rfl) (by kernel_rfl) ?_
 repeat (quiet_step (first | (with_reducible exact Ae.out _ _) | (with_reducible exact Af.out _ _)))
 refine wpQuiet_nil ?_
 intro w1 hw'
 obtain ⟨hk,hb⟩:=zQ hb hw'
 clear Aa Ab
 replace a0:=zB hk a0
 obtain ⟨Aa,Ab⟩:=ce2 a0
 clear Ae Af Ag Ah
 clear hk hw'
 go_wp2
 first | go_ret | go_ret2 | go_ret3
 exact ⟨rfl,hb⟩
theorem ckp_0zp  (k:Int) (a:Rat) (na:RN a 24 24) (hm:k.tmod 2=0) (hk:0≤k∧k≤7) (hl:a.num.sign=0) (hh:0 < (a - (1:Rat)).num.sign) (w:World) (R:EnvV w) :
   Calls Tryz.prog 69 #[.agg #[.int .i64 k,.string (ratB a)]] w (Ret w (.int .i64 3)):=by
 have Ac:=na.rl (K:=100000)
 have c1:=fun (w:World) (R:EnvV w)=>rcheck_any (ratB a) 0 (Or.inl ⟨isRat_of (na.rl (K:=200)),rfl⟩) (Nat.le_trans (size_of_RL (na.rl (K:=200))) (by decide)) w R.toEnvR
 have c2:=fun (w:World) (R:EnvV w)=>rsign_any a Ac w R.toEnvR
 have c3:CV 31 #[.string (ratB a),.string ⟨#[49]⟩] (.int .i64 (a - (1:Rat)).num.sign):=fun w R=>(by have h:=rcompare_any a (1:Rat) na.rm (RN.rl (K:=10000) rn_1) w R.toEnvR;simp only [rb_1] at h;exact h)
 have c4:=isBack_0 k (ratB a) hm hk
 have gm:k.tmod 2=0:=hm
 have gk:0≤k∧k≤7:=hk
 have gl:a.num.sign=0:=hl
 have gh:0 < (a - (1:Rat)).num.sign:=hh
 have eh:((a - (1:Rat)).num.sign == 0)=false:=beq_eq_false_iff_ne.2 (by omega)
 obtain ⟨Ai,Ad⟩:∃ vq,ratB a=vq:=⟨_,rfl⟩
 try simp only [Ad] at c1 c2 c3 c4 gm gk gl gh eh ⊢
 obtain ⟨lo,elo⟩:∃ vq,a.num.sign=vq:=⟨_,rfl⟩
 try simp only [elo] at c1 c2 c3 c4 gm gk gl gh eh ⊢
 obtain ⟨hi,ehi⟩:∃ vq,(a - (1:Rat)).num.sign=vq:=⟨_,rfl⟩
 try simp only [ehi] at c1 c2 c3 c4 gm gk gl gh eh ⊢
 have C1:=Lib.hid c1
 have C2:=Lib.hid c2
 have C3:=Lib.hid c3
 have C4:=Lib.hid c4
 clear c1 c2 c3 c4 Ad elo ehi Ac na hm hk hl hh
 have hb:=Below.refl w.heap.size w
 go_enter Tryz.func69,Tryz.ntmps69
 go_upto_region 1 with fail
 refine wp_alloc1 (fun w1 a0 hk=>?_)
 replace hb:=hb.trans (hk.mono hb.size)
 clear hk
 obtain ⟨Aa,Ab⟩:=ce2 a0
 go_upto_region 6 with (go_at_call 78;with_reducible refine (chVB hb R C1).mono ?_;clear hb;rintro e w1 ⟨rfl,hk,hb⟩;clear Aa Ab;replace a0:=zB hk a0;obtain ⟨Aa,Ab⟩:=ce2 a0;clear hk)
 obtain ⟨Ag,Ah⟩:=cy2 a0
 have Ae:=rrV C2 R hb
 have Af:=rrV C3 R hb
 refine wp_region_quiet_below (by first | assumption | kernel_rfl) (by kernel_rfl) ?_
 repeat (quiet_step (first | (with_reducible exact Ae.out _ _) | (with_reducible exact Af.out _ _)))
 refine wpQuiet_nil ?_
 intro w1 hw'
 obtain ⟨hk,hb⟩:=zQ hb hw'
 clear Aa Ab
 replace a0:=zB hk a0
 obtain ⟨Aa,Ab⟩:=ce2 a0
 clear Ae Af Ag Ah
 clear hk hw'
 go_wp2_with (go_at_call 71;with_reducible refine (chVB hb R C4).mono ?_;clear hb;rintro e w1 ⟨rfl,hk,hb⟩;clear Aa Ab;replace a0:=zB hk a0;obtain ⟨Aa,Ab⟩:=ce2 a0;clear hk)
 first | go_ret | go_ret2 | go_ret3
 exact ⟨rfl,hb⟩
theorem ckl_0zp  (k:Int) (a:Rat) (na:RN a 24 24) (hm:k.tmod 2=0) (hk:0≤k∧k≤7) (hl:a.num.sign=0) (hh:0 < (a - (1:Rat)).num.sign) (w:World) (R:EnvV w) :
   Calls Tryz.prog 30 #[.agg #[.int .i64 k,.string (ratB a)]] w (Ret w (.int .i64 3)):=by
 have Ac:=na.rl (K:=100000)
 have c1:∀ w,EnvV w→Calls Tryz.prog 21 #[.slice (some ⟨w.heap.size,0,none⟩) 1 1] (w.alloc (Obj.cells #[Value.string (ratB a)] 22)) (Ret w (.bool true)):=fun w R=>right1 (ratB a) true ⟨fun _=>isRat_of (na.rl (K:=200)),fun _=>rfl⟩ (Nat.le_trans (size_of_RL (na.rl (K:=200))) (by decide)) w R
 have c2:=fun (w:World) (R:EnvV w)=>rsign_any a Ac w R.toEnvR
 have c3:CV 31 #[.string (ratB a),.string ⟨#[49]⟩] (.int .i64 (a - (1:Rat)).num.sign):=fun w R=>(by have h:=rcompare_any a (1:Rat) na.rm (RN.rl (K:=10000) rn_1) w R.toEnvR;simp only [rb_1] at h;exact h)
 have gm:k.tmod 2=0:=hm
 have gk:0≤k∧k≤7:=hk
 have gl:a.num.sign=0:=hl
 have gh:0 < (a - (1:Rat)).num.sign:=hh
 have eh:((a - (1:Rat)).num.sign == 0)=false:=beq_eq_false_iff_ne.2 (by omega)
 obtain ⟨Ai,Ad⟩:∃ vq,ratB a=vq:=⟨_,rfl⟩
 try simp only [Ad] at c1 c2 c3 gm gk gl gh eh ⊢
 obtain ⟨lo,elo⟩:∃ vq,a.num.sign=vq:=⟨_,rfl⟩
 try simp only [elo] at c1 c2 c3 gm gk gl gh eh ⊢
 obtain ⟨hi,ehi⟩:∃ vq,(a - (1:Rat)).num.sign=vq:=⟨_,rfl⟩
 try simp only [ehi] at c1 c2 c3 gm gk gl gh eh ⊢
 have C1:=Lib.hid c1
 have C2:=Lib.hid c2
 have C3:=Lib.hid c3
 clear c1 c2 c3 Ad elo ehi Ac na hm hk hl hh
 have hb:=Below.refl w.heap.size w
 go_enter Tryz.func30,Tryz.ntmps30
 go_upto_region 1 with fail
 refine wp_alloc1 (fun w1 a0 hk=>?_)
 replace hb:=hb.trans (hk.mono hb.size)
 clear hk
 obtain ⟨Aa,Ab⟩:=ce2 a0
 go_upto_region 5 with (go_at_call 21;with_reducible refine (zL hb (C1.out _ (R.below hb))).mono ?_;clear hb;rintro e w1 ⟨rfl,hk,hb⟩;clear Aa Ab;replace a0:=zB hk a0;obtain ⟨Aa,Ab⟩:=ce2 a0;clear hk)
 obtain ⟨Ag,Ah⟩:=cy2 a0
 have Ae:=rrV C2 R hb
 have Af:=rrV C3 R hb
 refine wp_region_quiet_below (by first | assumption | kernel_rfl) (by kernel_rfl) ?_
 repeat (quiet_step (first | (with_reducible exact Ae.out _ _) | (with_reducible exact Af.out _ _)))
 refine wpQuiet_nil ?_
 intro w1 hw'
 obtain ⟨hk,hb⟩:=zQ hb hw'
 clear Aa Ab
 replace a0:=zB hk a0
 obtain ⟨Aa,Ab⟩:=ce2 a0
 clear Ae Af Ag Ah
 clear hk hw'
 go_wp2
 first | go_ret | go_ret2 | go_ret3
 exact ⟨rfl,hb⟩
theorem ckp_0pn  (k:Int) (a:Rat) (na:RN a 24 24) (hm:k.tmod 2=0) (hk:0≤k∧k≤7) (hl:0 < a.num.sign) (hh:(a - (1:Rat)).num.sign < 0) (w:World) (R:EnvV w) :
   Calls Tryz.prog 69 #[.agg #[.int .i64 k,.string (ratB a)]] w (Ret w (.int .i64 0)):=by
 have Ac:=na.rl (K:=100000)
 have c1:=fun (w:World) (R:EnvV w)=>rcheck_any (ratB a) 0 (Or.inl ⟨isRat_of (na.rl (K:=200)),rfl⟩) (Nat.le_trans (size_of_RL (na.rl (K:=200))) (by decide)) w R.toEnvR
 have c2:=fun (w:World) (R:EnvV w)=>rsign_any a Ac w R.toEnvR
 have c3:CV 31 #[.string (ratB a),.string ⟨#[49]⟩] (.int .i64 (a - (1:Rat)).num.sign):=fun w R=>(by have h:=rcompare_any a (1:Rat) na.rm (RN.rl (K:=10000) rn_1) w R.toEnvR;simp only [rb_1] at h;exact h)
 have c4:=isBack_0 k (ratB a) hm hk
 have gm:k.tmod 2=0:=hm
 have gk:0≤k∧k≤7:=hk
 have gl:0 < a.num.sign:=hl
 have gh:(a - (1:Rat)).num.sign < 0:=hh
 have el:(a.num.sign == 0)=false:=beq_eq_false_iff_ne.2 (by omega)
 have eh:((a - (1:Rat)).num.sign == 0)=false:=beq_eq_false_iff_ne.2 (by omega)
 obtain ⟨Ai,Ad⟩:∃ vq,ratB a=vq:=⟨_,rfl⟩
 try simp only [Ad] at c1 c2 c3 c4 gm gk gl gh el eh ⊢
 obtain ⟨lo,elo⟩:∃ vq,a.num.sign=vq:=⟨_,rfl⟩
 try simp only [elo] at c1 c2 c3 c4 gm gk gl gh el eh ⊢
 obtain ⟨hi,ehi⟩:∃ vq,(a - (1:Rat)).num.sign=vq:=⟨_,rfl⟩
 try simp only [ehi] at c1 c2 c3 c4 gm gk gl gh el eh ⊢
 have C1:=Lib.hid c1
 have C2:=Lib.hid c2
 have C3:=Lib.hid c3
 have C4:=Lib.hid c4
 clear c1 c2 c3 c4 Ad elo ehi Ac na hm hk hl hh
 have hb:=Below.refl w.heap.size w
 go_enter Tryz.func69,Tryz.ntmps69
 go_upto_region 1 with fail
 refine wp_alloc1 (fun w1 a0 hk=>?_)
 replace hb:=hb.trans (hk.mono hb.size)
 clear hk
 obtain ⟨Aa,Ab⟩:=ce2 a0
 go_upto_region 6 with (go_at_call 78;with_reducible refine (chVB hb R C1).mono ?_;clear hb;rintro e w1 ⟨rfl,hk,hb⟩;clear Aa Ab;replace a0:=zB hk a0;obtain ⟨Aa,Ab⟩:=ce2 a0;clear hk)
 obtain ⟨Ag,Ah⟩:=cy2 a0
 have Ae:=rrV C2 R hb
 have Af:=rrV C3 R hb
 refine wp_region_quiet_below (by first | assumption | kernel_rfl) (by kernel_rfl) ?_
 repeat (quiet_step (first | (with_reducible exact Ae.out _ _) | (with_reducible exact Af.out _ _)))
 refine wpQuiet_nil ?_
 intro w1 hw'
 obtain ⟨hk,hb⟩:=zQ hb hw'
 clear Aa Ab
 replace a0:=zB hk a0
 obtain ⟨Aa,Ab⟩:=ce2 a0
 clear Ae Af Ag Ah
 clear hk hw'
 go_wp2_with (go_at_call 71;with_reducible refine (chVB hb R C4).mono ?_;clear hb;rintro e w1 ⟨rfl,hk,hb⟩;clear Aa Ab;replace a0:=zB hk a0;obtain ⟨Aa,Ab⟩:=ce2 a0;clear hk)
 first | go_ret | go_ret2 | go_ret3
 exact ⟨rfl,hb⟩
theorem ckl_0pn  (k:Int) (a:Rat) (na:RN a 24 24) (hm:k.tmod 2=0) (hk:0≤k∧k≤7) (hl:0 < a.num.sign) (hh:(a - (1:Rat)).num.sign < 0) (w:World) (R:EnvV w) :
   Calls Tryz.prog 30 #[.agg #[.int .i64 k,.string (ratB a)]] w (Ret w (.int .i64 0)):=by
 have Ac:=na.rl (K:=100000)
 have c1:∀ w,EnvV w→Calls Tryz.prog 21 #[.slice (some ⟨w.heap.size,0,none⟩) 1 1] (w.alloc (Obj.cells #[Value.string (ratB a)] 22)) (Ret w (.bool true)):=fun w R=>right1 (ratB a) true ⟨fun _=>isRat_of (na.rl (K:=200)),fun _=>rfl⟩ (Nat.le_trans (size_of_RL (na.rl (K:=200))) (by decide)) w R
 have c2:=fun (w:World) (R:EnvV w)=>rsign_any a Ac w R.toEnvR
 have c3:CV 31 #[.string (ratB a),.string ⟨#[49]⟩] (.int .i64 (a - (1:Rat)).num.sign):=fun w R=>(by have h:=rcompare_any a (1:Rat) na.rm (RN.rl (K:=10000) rn_1) w R.toEnvR;simp only [rb_1] at h;exact h)
 have gm:k.tmod 2=0:=hm
 have gk:0≤k∧k≤7:=hk
 have gl:0 < a.num.sign:=hl
 have gh:(a - (1:Rat)).num.sign < 0:=hh
 have el:(a.num.sign == 0)=false:=beq_eq_false_iff_ne.2 (by omega)
 have eh:((a - (1:Rat)).num.sign == 0)=false:=beq_eq_false_iff_ne.2 (by omega)
 obtain ⟨Ai,Ad⟩:∃ vq,ratB a=vq:=⟨_,rfl⟩
 try simp only [Ad] at c1 c2 c3 gm gk gl gh el eh ⊢
 obtain ⟨lo,elo⟩:∃ vq,a.num.sign=vq:=⟨_,rfl⟩
 try simp only [elo] at c1 c2 c3 gm gk gl gh el eh ⊢
 obtain ⟨hi,ehi⟩:∃ vq,(a - (1:Rat)).num.sign=vq:=⟨_,rfl⟩
 try simp only [ehi] at c1 c2 c3 gm gk gl gh el eh ⊢
 have C1:=Lib.hid c1
 have C2:=Lib.hid c2
 have C3:=Lib.hid c3
 clear c1 c2 c3 Ad elo ehi Ac na hm hk hl hh
 have hb:=Below.refl w.heap.size w
 go_enter Tryz.func30,Tryz.ntmps30
 go_upto_region 1 with fail
 refine wp_alloc1 (fun w1 a0 hk=>?_)
 replace hb:=hb.trans (hk.mono hb.size)
 clear hk
 obtain ⟨Aa,Ab⟩:=ce2 a0
 go_upto_region 5 with (go_at_call 21;with_reducible refine (zL hb (C1.out _ (R.below hb))).mono ?_;clear hb;rintro e w1 ⟨rfl,hk,hb⟩;clear Aa Ab;replace a0:=zB hk a0;obtain ⟨Aa,Ab⟩:=ce2 a0;clear hk)
 obtain ⟨Ag,Ah⟩:=cy2 a0
 have Ae:=rrV C2 R hb
 have Af:=rrV C3 R hb
 refine wp_region_quiet_below (by first | assumption | kernel_rfl) (by kernel_rfl) ?_
 repeat (quiet_step (first | (with_reducible exact Ae.out _ _) | (with_reducible exact Af.out _ _)))
 refine wpQuiet_nil ?_
 intro w1 hw'
 obtain ⟨hk,hb⟩:=zQ hb hw'
 clear Aa Ab
 replace a0:=zB hk a0
 obtain ⟨Aa,Ab⟩:=ce2 a0
 clear Ae Af Ag Ah
 clear hk hw'
 go_wp2
 first | go_ret | go_ret2 | go_ret3
 exact ⟨rfl,hb⟩
theorem ckp_0pz  (k:Int) (a:Rat) (na:RN a 24 24) (hm:k.tmod 2=0) (hk:0≤k∧k≤7) (hl:0 < a.num.sign) (hh:(a - (1:Rat)).num.sign=0) (w:World) (R:EnvV w) :
   Calls Tryz.prog 69 #[.agg #[.int .i64 k,.string (ratB a)]] w (Ret w (.int .i64 3)):=by
 have Ac:=na.rl (K:=100000)
 have c1:=fun (w:World) (R:EnvV w)=>rcheck_any (ratB a) 0 (Or.inl ⟨isRat_of (na.rl (K:=200)),rfl⟩) (Nat.le_trans (size_of_RL (na.rl (K:=200))) (by decide)) w R.toEnvR
 have c2:=fun (w:World) (R:EnvV w)=>rsign_any a Ac w R.toEnvR
 have c3:CV 31 #[.string (ratB a),.string ⟨#[49]⟩] (.int .i64 (a - (1:Rat)).num.sign):=fun w R=>(by have h:=rcompare_any a (1:Rat) na.rm (RN.rl (K:=10000) rn_1) w R.toEnvR;simp only [rb_1] at h;exact h)
 have c4:=isBack_0 k (ratB a) hm hk
 have gm:k.tmod 2=0:=hm
 have gk:0≤k∧k≤7:=hk
 have gl:0 < a.num.sign:=hl
 have gh:(a - (1:Rat)).num.sign=0:=hh
 have el:(a.num.sign == 0)=false:=beq_eq_false_iff_ne.2 (by omega)
 obtain ⟨Ai,Ad⟩:∃ vq,ratB a=vq:=⟨_,rfl⟩
 try simp only [Ad] at c1 c2 c3 c4 gm gk gl gh el ⊢
 obtain ⟨lo,elo⟩:∃ vq,a.num.sign=vq:=⟨_,rfl⟩
 try simp only [elo] at c1 c2 c3 c4 gm gk gl gh el ⊢
 obtain ⟨hi,ehi⟩:∃ vq,(a - (1:Rat)).num.sign=vq:=⟨_,rfl⟩
 try simp only [ehi] at c1 c2 c3 c4 gm gk gl gh el ⊢
 have C1:=Lib.hid c1
 have C2:=Lib.hid c2
 have C3:=Lib.hid c3
 have C4:=Lib.hid c4
 clear c1 c2 c3 c4 Ad elo ehi Ac na hm hk hl hh
 have hb:=Below.refl w.heap.size w
 go_enter Tryz.func69,Tryz.ntmps69
 go_upto_region 1 with fail
 refine wp_alloc1 (fun w1 a0 hk=>?_)
 replace hb:=hb.trans (hk.mono hb.size)
 clear hk
 obtain ⟨Aa,Ab⟩:=ce2 a0
 go_upto_region 6 with (go_at_call 78;with_reducible refine (chVB hb R C1).mono ?_;clear hb;rintro e w1 ⟨rfl,hk,hb⟩;clear Aa Ab;replace a0:=zB hk a0;obtain ⟨Aa,Ab⟩:=ce2 a0;clear hk)
 obtain ⟨Ag,Ah⟩:=cy2 a0
 have Ae:=rrV C2 R hb
 have Af:=rrV C3 R hb
 refine wp_region_quiet_below (by first | assumption | kernel_rfl) (by kernel_rfl) ?_
 repeat (quiet_step (first | (with_reducible exact Ae.out _ _) | (with_reducible exact Af.out _ _)))
 refine wpQuiet_nil ?_
 intro w1 hw'
 obtain ⟨hk,hb⟩:=zQ hb hw'
 clear Aa Ab
 replace a0:=zB hk a0
 obtain ⟨Aa,Ab⟩:=ce2 a0
 clear Ae Af Ag Ah
 clear hk hw'
 go_wp2_with (go_at_call 71;with_reducible refine (chVB hb R C4).mono ?_;clear hb;rintro e w1 ⟨rfl,hk,hb⟩;clear Aa Ab;replace a0:=zB hk a0;obtain ⟨Aa,Ab⟩:=ce2 a0;clear hk)
 first | go_ret | go_ret2 | go_ret3
 exact ⟨rfl,hb⟩
theorem ckl_0pz  (k:Int) (a:Rat) (na:RN a 24 24) (hm:k.tmod 2=0) (hk:0≤k∧k≤7) (hl:0 < a.num.sign) (hh:(a - (1:Rat)).num.sign=0) (w:World) (R:EnvV w) :
   Calls Tryz.prog 30 #[.agg #[.int .i64 k,.string (ratB a)]] w (Ret w (.int .i64 3)):=by
 have Ac:=na.rl (K:=100000)
 have c1:∀ w,EnvV w→Calls Tryz.prog 21 #[.slice (some ⟨w.heap.size,0,none⟩) 1 1] (w.alloc (Obj.cells #[Value.string (ratB a)] 22)) (Ret w (.bool true)):=fun w R=>right1 (ratB a) true ⟨fun _=>isRat_of (na.rl (K:=200)),fun _=>rfl⟩ (Nat.le_trans (size_of_RL (na.rl (K:=200))) (by decide)) w R
 have c2:=fun (w:World) (R:EnvV w)=>rsign_any a Ac w R.toEnvR
 have c3:CV 31 #[.string (ratB a),.string ⟨#[49]⟩] (.int .i64 (a - (1:Rat)).num.sign):=fun w R=>(by have h:=rcompare_any a (1:Rat) na.rm (RN.rl (K:=10000) rn_1) w R.toEnvR;simp only [rb_1] at h;exact h)
 have gm:k.tmod 2=0:=hm
 have gk:0≤k∧k≤7:=hk
 have gl:0 < a.num.sign:=hl
 have gh:(a - (1:Rat)).num.sign=0:=hh
 have el:(a.num.sign == 0)=false:=beq_eq_false_iff_ne.2 (by omega)
 obtain ⟨Ai,Ad⟩:∃ vq,ratB a=vq:=⟨_,rfl⟩
 try simp only [Ad] at c1 c2 c3 gm gk gl gh el ⊢
 obtain ⟨lo,elo⟩:∃ vq,a.num.sign=vq:=⟨_,rfl⟩
 try simp only [elo] at c1 c2 c3 gm gk gl gh el ⊢
 obtain ⟨hi,ehi⟩:∃ vq,(a - (1:Rat)).num.sign=vq:=⟨_,rfl⟩
 try simp only [ehi] at c1 c2 c3 gm gk gl gh el ⊢
 have C1:=Lib.hid c1
 have C2:=Lib.hid c2
 have C3:=Lib.hid c3
 clear c1 c2 c3 Ad elo ehi Ac na hm hk hl hh
 have hb:=Below.refl w.heap.size w
 go_enter Tryz.func30,Tryz.ntmps30
 go_upto_region 1 with fail
 refine wp_alloc1 (fun w1 a0 hk=>?_)
 replace hb:=hb.trans (hk.mono hb.size)
 clear hk
 obtain ⟨Aa,Ab⟩:=ce2 a0
 go_upto_region 5 with (go_at_call 21;with_reducible refine (zL hb (C1.out _ (R.below hb))).mono ?_;clear hb;rintro e w1 ⟨rfl,hk,hb⟩;clear Aa Ab;replace a0:=zB hk a0;obtain ⟨Aa,Ab⟩:=ce2 a0;clear hk)
 obtain ⟨Ag,Ah⟩:=cy2 a0
 have Ae:=rrV C2 R hb
 have Af:=rrV C3 R hb
 refine wp_region_quiet_below (by first | assumption | kernel_rfl) (by kernel_rfl) ?_
 repeat (quiet_step (first | (with_reducible exact Ae.out _ _) | (with_reducible exact Af.out _ _)))
 refine wpQuiet_nil ?_
 intro w1 hw'
 obtain ⟨hk,hb⟩:=zQ hb hw'
 clear Aa Ab
 replace a0:=zB hk a0
 obtain ⟨Aa,Ab⟩:=ce2 a0
 clear Ae Af Ag Ah
 clear hk hw'
 go_wp2
 first | go_ret | go_ret2 | go_ret3
 exact ⟨rfl,hb⟩
theorem ckp_0pp  (k:Int) (a:Rat) (na:RN a 24 24) (hm:k.tmod 2=0) (hk:0≤k∧k≤7) (hl:0 < a.num.sign) (hh:0 < (a - (1:Rat)).num.sign) (w:World) (R:EnvV w) :
   Calls Tryz.prog 69 #[.agg #[.int .i64 k,.string (ratB a)]] w (Ret w (.int .i64 3)):=by
 have Ac:=na.rl (K:=100000)
 have c1:=fun (w:World) (R:EnvV w)=>rcheck_any (ratB a) 0 (Or.inl ⟨isRat_of (na.rl (K:=200)),rfl⟩) (Nat.le_trans (size_of_RL (na.rl (K:=200))) (by decide)) w R.toEnvR
 have c2:=fun (w:World) (R:EnvV w)=>rsign_any a Ac w R.toEnvR
 have c3:CV 31 #[.string (ratB a),.string ⟨#[49]⟩] (.int .i64 (a - (1:Rat)).num.sign):=fun w R=>(by have h:=rcompare_any a (1:Rat) na.rm (RN.rl (K:=10000) rn_1) w R.toEnvR;simp only [rb_1] at h;exact h)
 have c4:=isBack_0 k (ratB a) hm hk
 have gm:k.tmod 2=0:=hm
 have gk:0≤k∧k≤7:=hk
 have gl:0 < a.num.sign:=hl
 have gh:0 < (a - (1:Rat)).num.sign:=hh
 have el:(a.num.sign == 0)=false:=beq_eq_false_iff_ne.2 (by omega)
 have eh:((a - (1:Rat)).num.sign == 0)=false:=beq_eq_false_iff_ne.2 (by omega)
 obtain ⟨Ai,Ad⟩:∃ vq,ratB a=vq:=⟨_,rfl⟩
 try simp only [Ad] at c1 c2 c3 c4 gm gk gl gh el eh ⊢
 obtain ⟨lo,elo⟩:∃ vq,a.num.sign=vq:=⟨_,rfl⟩
 try simp only [elo] at c1 c2 c3 c4 gm gk gl gh el eh ⊢
 obtain ⟨hi,ehi⟩:∃ vq,(a - (1:Rat)).num.sign=vq:=⟨_,rfl⟩
 try simp only [ehi] at c1 c2 c3 c4 gm gk gl gh el eh ⊢
 have C1:=Lib.hid c1
 have C2:=Lib.hid c2
 have C3:=Lib.hid c3
 have C4:=Lib.hid c4
 clear c1 c2 c3 c4 Ad elo ehi Ac na hm hk hl hh
 have hb:=Below.refl w.heap.size w
 go_enter Tryz.func69,Tryz.ntmps69
 go_upto_region 1 with fail
 refine wp_alloc1 (fun w1 a0 hk=>?_)
 replace hb:=hb.trans (hk.mono hb.size)
 clear hk
 obtain ⟨Aa,Ab⟩:=ce2 a0
 go_upto_region 6 with (go_at_call 78;with_reducible refine (chVB hb R C1).mono ?_;clear hb;rintro e w1 ⟨rfl,hk,hb⟩;clear Aa Ab;replace a0:=zB hk a0;obtain ⟨Aa,Ab⟩:=ce2 a0;clear hk)
 obtain ⟨Ag,Ah⟩:=cy2 a0
 have Ae:=rrV C2 R hb
 have Af:=rrV C3 R hb
 refine wp_region_quiet_below (by first | assumption | kernel_rfl) (by kernel_rfl) ?_
 repeat (quiet_step (first | (with_reducible exact Ae.out _ _) | (with_reducible exact Af.out _ _)))
 refine wpQuiet_nil ?_
 intro w1 hw'
 obtain ⟨hk,hb⟩:=zQ hb hw'
 clear Aa Ab
 replace a0:=zB hk a0
 obtain ⟨Aa,Ab⟩:=ce2 a0
 clear Ae Af Ag Ah
 clear hk hw'
 go_wp2_with (go_at_call 71;with_reducible refine (chVB hb R C4).mono ?_;clear hb;rintro e w1 ⟨rfl,hk,hb⟩;clear Aa Ab;replace a0:=zB hk a0;obtain ⟨Aa,Ab⟩:=ce2 a0;clear hk)
 first | go_ret | go_ret2 | go_ret3
 exact ⟨rfl,hb⟩
theorem ckl_0pp  (k:Int) (a:Rat) (na:RN a 24 24) (hm:k.tmod 2=0) (hk:0≤k∧k≤7) (hl:0 < a.num.sign) (hh:0 < (a - (1:Rat)).num.sign) (w:World) (R:EnvV w) :
   Calls Tryz.prog 30 #[.agg #[.int .i64 k,.string (ratB a)]] w (Ret w (.int .i64 3)):=by
 have Ac:=na.rl (K:=100000)
 have c1:∀ w,EnvV w→Calls Tryz.prog 21 #[.slice (some ⟨w.heap.size,0,none⟩) 1 1] (w.alloc (Obj.cells #[Value.string (ratB a)] 22)) (Ret w (.bool true)):=fun w R=>right1 (ratB a) true ⟨fun _=>isRat_of (na.rl (K:=200)),fun _=>rfl⟩ (Nat.le_trans (size_of_RL (na.rl (K:=200))) (by decide)) w R
 have c2:=fun (w:World) (R:EnvV w)=>rsign_any a Ac w R.toEnvR
 have c3:CV 31 #[.string (ratB a),.string ⟨#[49]⟩] (.int .i64 (a - (1:Rat)).num.sign):=fun w R=>(by have h:=rcompare_any a (1:Rat) na.rm (RN.rl (K:=10000) rn_1) w R.toEnvR;simp only [rb_1] at h;exact h)
 have gm:k.tmod 2=0:=hm
 have gk:0≤k∧k≤7:=hk
 have gl:0 < a.num.sign:=hl
 have gh:0 < (a - (1:Rat)).num.sign:=hh
 have el:(a.num.sign == 0)=false:=beq_eq_false_iff_ne.2 (by omega)
 have eh:((a - (1:Rat)).num.sign == 0)=false:=beq_eq_false_iff_ne.2 (by omega)
 obtain ⟨Ai,Ad⟩:∃ vq,ratB a=vq:=⟨_,rfl⟩
 try simp only [Ad] at c1 c2 c3 gm gk gl gh el eh ⊢
 obtain ⟨lo,elo⟩:∃ vq,a.num.sign=vq:=⟨_,rfl⟩
 try simp only [elo] at c1 c2 c3 gm gk gl gh el eh ⊢
 obtain ⟨hi,ehi⟩:∃ vq,(a - (1:Rat)).num.sign=vq:=⟨_,rfl⟩
 try simp only [ehi] at c1 c2 c3 gm gk gl gh el eh ⊢
 have C1:=Lib.hid c1
 have C2:=Lib.hid c2
 have C3:=Lib.hid c3
 clear c1 c2 c3 Ad elo ehi Ac na hm hk hl hh
 have hb:=Below.refl w.heap.size w
 go_enter Tryz.func30,Tryz.ntmps30
 go_upto_region 1 with fail
 refine wp_alloc1 (fun w1 a0 hk=>?_)
 replace hb:=hb.trans (hk.mono hb.size)
 clear hk
 obtain ⟨Aa,Ab⟩:=ce2 a0
 go_upto_region 5 with (go_at_call 21;with_reducible refine (zL hb (C1.out _ (R.below hb))).mono ?_;clear hb;rintro e w1 ⟨rfl,hk,hb⟩;clear Aa Ab;replace a0:=zB hk a0;obtain ⟨Aa,Ab⟩:=ce2 a0;clear hk)
 obtain ⟨Ag,Ah⟩:=cy2 a0
 have Ae:=rrV C2 R hb
 have Af:=rrV C3 R hb
 refine wp_region_quiet_below (by first | assumption | kernel_rfl) (by kernel_rfl) ?_
 repeat (quiet_step (first | (with_reducible exact Ae.out _ _) | (with_reducible exact Af.out _ _)))
 refine wpQuiet_nil ?_
 intro w1 hw'
 obtain ⟨hk,hb⟩:=zQ hb hw'
 clear Aa Ab
 replace a0:=zB hk a0
 obtain ⟨Aa,Ab⟩:=ce2 a0
 clear Ae Af Ag Ah
 clear hk hw'
 go_wp2
 first | go_ret | go_ret2 | go_ret3
 exact ⟨rfl,hb⟩
theorem ckp_1nn  (k:Int) (a:Rat) (na:RN a 24 24) (hm:k.tmod 2=1) (hk:0≤k∧k≤7) (hl:a.num.sign < 0) (hh:(a - (1:Rat)).num.sign < 0) (w:World) (R:EnvV w) :
   Calls Tryz.prog 69 #[.agg #[.int .i64 k,.string (ratB a)]] w (Ret w (.int .i64 3)):=by
 have Ac:=na.rl (K:=100000)
 have c1:=fun (w:World) (R:EnvV w)=>rcheck_any (ratB a) 0 (Or.inl ⟨isRat_of (na.rl (K:=200)),rfl⟩) (Nat.le_trans (size_of_RL (na.rl (K:=200))) (by decide)) w R.toEnvR
 have c2:=fun (w:World) (R:EnvV w)=>rsign_any a Ac w R.toEnvR
 have c3:CV 31 #[.string (ratB a),.string ⟨#[49]⟩] (.int .i64 (a - (1:Rat)).num.sign):=fun w R=>(by have h:=rcompare_any a (1:Rat) na.rm (RN.rl (K:=10000) rn_1) w R.toEnvR;simp only [rb_1] at h;exact h)
 have c4:=isBack_1 k (ratB a) hm hk
 have gm:k.tmod 2=1:=hm
 have gk:0≤k∧k≤7:=hk
 have gl:a.num.sign < 0:=hl
 have gh:(a - (1:Rat)).num.sign < 0:=hh
 have el:(a.num.sign == 0)=false:=beq_eq_false_iff_ne.2 (by omega)
 have eh:((a - (1:Rat)).num.sign == 0)=false:=beq_eq_false_iff_ne.2 (by omega)
 obtain ⟨Ai,Ad⟩:∃ vq,ratB a=vq:=⟨_,rfl⟩
 try simp only [Ad] at c1 c2 c3 c4 gm gk gl gh el eh ⊢
 obtain ⟨lo,elo⟩:∃ vq,a.num.sign=vq:=⟨_,rfl⟩
 try simp only [elo] at c1 c2 c3 c4 gm gk gl gh el eh ⊢
 obtain ⟨hi,ehi⟩:∃ vq,(a - (1:Rat)).num.sign=vq:=⟨_,rfl⟩
 try simp only [ehi] at c1 c2 c3 c4 gm gk gl gh el eh ⊢
 have C1:=Lib.hid c1
 have C2:=Lib.hid c2
 have C3:=Lib.hid c3
 have C4:=Lib.hid c4
 clear c1 c2 c3 c4 Ad elo ehi Ac na hm hk hl hh
 have hb:=Below.refl w.heap.size w
 go_enter Tryz.func69,Tryz.ntmps69
 go_upto_region 1 with fail
 refine wp_alloc1 (fun w1 a0 hk=>?_)
 replace hb:=hb.trans (hk.mono hb.size)
 clear hk
 obtain ⟨Aa,Ab⟩:=ce2 a0
 go_upto_region 6 with (go_at_call 78;with_reducible refine (chVB hb R C1).mono ?_;clear hb;rintro e w1 ⟨rfl,hk,hb⟩;clear Aa Ab;replace a0:=zB hk a0;obtain ⟨Aa,Ab⟩:=ce2 a0;clear hk)
 obtain ⟨Ag,Ah⟩:=cy2 a0
 have Ae:=rrV C2 R hb
 have Af:=rrV C3 R hb
 refine wp_region_quiet_below (by first | assumption | kernel_rfl) (by kernel_rfl) ?_
 repeat (quiet_step (first | (with_reducible exact Ae.out _ _) | (with_reducible exact Af.out _ _)))
 refine wpQuiet_nil ?_
 intro w1 hw'
 obtain ⟨hk,hb⟩:=zQ hb hw'
 clear Aa Ab
 replace a0:=zB hk a0
 obtain ⟨Aa,Ab⟩:=ce2 a0
 clear Ae Af Ag Ah
 clear hk hw'
 go_wp2_with (go_at_call 71;with_reducible refine (chVB hb R C4).mono ?_;clear hb;rintro e w1 ⟨rfl,hk,hb⟩;clear Aa Ab;replace a0:=zB hk a0;obtain ⟨Aa,Ab⟩:=ce2 a0;clear hk)
 first | go_ret | go_ret2 | go_ret3
 exact ⟨rfl,hb⟩
theorem ckl_1nn  (k:Int) (a:Rat) (na:RN a 24 24) (hm:k.tmod 2=1) (hk:0≤k∧k≤7) (hl:a.num.sign < 0) (hh:(a - (1:Rat)).num.sign < 0) (w:World) (R:EnvV w) :
   Calls Tryz.prog 30 #[.agg #[.int .i64 k,.string (ratB a)]] w (Ret w (.int .i64 3)):=by
 have Ac:=na.rl (K:=100000)
 have c1:∀ w,EnvV w→Calls Tryz.prog 21 #[.slice (some ⟨w.heap.size,0,none⟩) 1 1] (w.alloc (Obj.cells #[Value.string (ratB a)] 22)) (Ret w (.bool true)):=fun w R=>right1 (ratB a) true ⟨fun _=>isRat_of (na.rl (K:=200)),fun _=>rfl⟩ (Nat.le_trans (size_of_RL (na.rl (K:=200))) (by decide)) w R
 have c2:=fun (w:World) (R:EnvV w)=>rsign_any a Ac w R.toEnvR
 have c3:CV 31 #[.string (ratB a),.string ⟨#[49]⟩] (.int .i64 (a - (1:Rat)).num.sign):=fun w R=>(by have h:=rcompare_any a (1:Rat) na.rm (RN.rl (K:=10000) rn_1) w R.toEnvR;simp only [rb_1] at h;exact h)
 have gm:k.tmod 2=1:=hm
 have gk:0≤k∧k≤7:=hk
 have gl:a.num.sign < 0:=hl
 have gh:(a - (1:Rat)).num.sign < 0:=hh
 have el:(a.num.sign == 0)=false:=beq_eq_false_iff_ne.2 (by omega)
 have eh:((a - (1:Rat)).num.sign == 0)=false:=beq_eq_false_iff_ne.2 (by omega)
 obtain ⟨Ai,Ad⟩:∃ vq,ratB a=vq:=⟨_,rfl⟩
 try simp only [Ad] at c1 c2 c3 gm gk gl gh el eh ⊢
 obtain ⟨lo,elo⟩:∃ vq,a.num.sign=vq:=⟨_,rfl⟩
 try simp only [elo] at c1 c2 c3 gm gk gl gh el eh ⊢
 obtain ⟨hi,ehi⟩:∃ vq,(a - (1:Rat)).num.sign=vq:=⟨_,rfl⟩
 try simp only [ehi] at c1 c2 c3 gm gk gl gh el eh ⊢
 have C1:=Lib.hid c1
 have C2:=Lib.hid c2
 have C3:=Lib.hid c3
 clear c1 c2 c3 Ad elo ehi Ac na hm hk hl hh
 have hb:=Below.refl w.heap.size w
 go_enter Tryz.func30,Tryz.ntmps30
 go_upto_region 1 with fail
 refine wp_alloc1 (fun w1 a0 hk=>?_)
 replace hb:=hb.trans (hk.mono hb.size)
 clear hk
 obtain ⟨Aa,Ab⟩:=ce2 a0
 go_upto_region 5 with (go_at_call 21;with_reducible refine (zL hb (C1.out _ (R.below hb))).mono ?_;clear hb;rintro e w1 ⟨rfl,hk,hb⟩;clear Aa Ab;replace a0:=zB hk a0;obtain ⟨Aa,Ab⟩:=ce2 a0;clear hk)
 obtain ⟨Ag,Ah⟩:=cy2 a0
 have Ae:=rrV C2 R hb
 have Af:=rrV C3 R hb
 refine wp_region_quiet_below (by first | assumption | kernel_rfl) (by kernel_rfl) ?_
 repeat (quiet_step (first | (with_reducible exact Ae.out _ _) | (with_reducible exact Af.out _ _)))
 refine wpQuiet_nil ?_
 intro w1 hw'
 obtain ⟨hk,hb⟩:=zQ hb hw'
 clear Aa Ab
 replace a0:=zB hk a0
 obtain ⟨Aa,Ab⟩:=ce2 a0
 clear Ae Af Ag Ah
 clear hk hw'
 go_wp2
 first | go_ret | go_ret2 | go_ret3
 exact ⟨rfl,hb⟩
theorem ckp_1nz  (k:Int) (a:Rat) (na:RN a 24 24) (hm:k.tmod 2=1) (hk:0≤k∧k≤7) (hl:a.num.sign < 0) (hh:(a - (1:Rat)).num.sign=0) (w:World) (R:EnvV w) :
   Calls Tryz.prog 69 #[.agg #[.int .i64 k,.string (ratB a)]] w (Ret w (.int .i64 3)):=by
 have Ac:=na.rl (K:=100000)
 have c1:=fun (w:World) (R:EnvV w)=>rcheck_any (ratB a) 0 (Or.inl ⟨isRat_of (na.rl (K:=200)),rfl⟩) (Nat.le_trans (size_of_RL (na.rl (K:=200))) (by decide)) w R.toEnvR
 have c2:=fun (w:World) (R:EnvV w)=>rsign_any a Ac w R.toEnvR
 have c3:CV 31 #[.string (ratB a),.string ⟨#[49]⟩] (.int .i64 (a - (1:Rat)).num.sign):=fun w R=>(by have h:=rcompare_any a (1:Rat) na.rm (RN.rl (K:=10000) rn_1) w R.toEnvR;simp only [rb_1] at h;exact h)
 have c4:=isBack_1 k (ratB a) hm hk
 have gm:k.tmod 2=1:=hm
 have gk:0≤k∧k≤7:=hk
 have gl:a.num.sign < 0:=hl
 have gh:(a - (1:Rat)).num.sign=0:=hh
 have el:(a.num.sign == 0)=false:=beq_eq_false_iff_ne.2 (by omega)
 obtain ⟨Ai,Ad⟩:∃ vq,ratB a=vq:=⟨_,rfl⟩
 try simp only [Ad] at c1 c2 c3 c4 gm gk gl gh el ⊢
 obtain ⟨lo,elo⟩:∃ vq,a.num.sign=vq:=⟨_,rfl⟩
 try simp only [elo] at c1 c2 c3 c4 gm gk gl gh el ⊢
 obtain ⟨hi,ehi⟩:∃ vq,(a - (1:Rat)).num.sign=vq:=⟨_,rfl⟩
 try simp only [ehi] at c1 c2 c3 c4 gm gk gl gh el ⊢
 have C1:=Lib.hid c1
 have C2:=Lib.hid c2
 have C3:=Lib.hid c3
 have C4:=Lib.hid c4
 clear c1 c2 c3 c4 Ad elo ehi Ac na hm hk hl hh
 have hb:=Below.refl w.heap.size w
 go_enter Tryz.func69,Tryz.ntmps69
 go_upto_region 1 with fail
 refine wp_alloc1 (fun w1 a0 hk=>?_)
 replace hb:=hb.trans (hk.mono hb.size)
 clear hk
 obtain ⟨Aa,Ab⟩:=ce2 a0
 go_upto_region 6 with (go_at_call 78;with_reducible refine (chVB hb R C1).mono ?_;clear hb;rintro e w1 ⟨rfl,hk,hb⟩;clear Aa Ab;replace a0:=zB hk a0;obtain ⟨Aa,Ab⟩:=ce2 a0;clear hk)
 obtain ⟨Ag,Ah⟩:=cy2 a0
 have Ae:=rrV C2 R hb
 have Af:=rrV C3 R hb
 refine wp_region_quiet_below (by first | assumption | kernel_rfl) (by kernel_rfl) ?_
 repeat (quiet_step (first | (with_reducible exact Ae.out _ _) | (with_reducible exact Af.out _ _)))
 refine wpQuiet_nil ?_
 intro w1 hw'
 obtain ⟨hk,hb⟩:=zQ hb hw'
 clear Aa Ab
 replace a0:=zB hk a0
 obtain ⟨Aa,Ab⟩:=ce2 a0
 clear Ae Af Ag Ah
 clear hk hw'
 go_wp2_with (go_at_call 71;with_reducible refine (chVB hb R C4).mono ?_;clear hb;rintro e w1 ⟨rfl,hk,hb⟩;clear Aa Ab;replace a0:=zB hk a0;obtain ⟨Aa,Ab⟩:=ce2 a0;clear hk)
 first | go_ret | go_ret2 | go_ret3
 exact ⟨rfl,hb⟩
theorem ckl_1nz  (k:Int) (a:Rat) (na:RN a 24 24) (hm:k.tmod 2=1) (hk:0≤k∧k≤7) (hl:a.num.sign < 0) (hh:(a - (1:Rat)).num.sign=0) (w:World) (R:EnvV w) :
   Calls Tryz.prog 30 #[.agg #[.int .i64 k,.string (ratB a)]] w (Ret w (.int .i64 3)):=by
 have Ac:=na.rl (K:=100000)
 have c1:∀ w,EnvV w→Calls Tryz.prog 21 #[.slice (some ⟨w.heap.size,0,none⟩) 1 1] (w.alloc (Obj.cells #[Value.string (ratB a)] 22)) (Ret w (.bool true)):=fun w R=>right1 (ratB a) true ⟨fun _=>isRat_of (na.rl (K:=200)),fun _=>rfl⟩ (Nat.le_trans (size_of_RL (na.rl (K:=200))) (by decide)) w R
 have c2:=fun (w:World) (R:EnvV w)=>rsign_any a Ac w R.toEnvR
 have c3:CV 31 #[.string (ratB a),.string ⟨#[49]⟩] (.int .i64 (a - (1:Rat)).num.sign):=fun w R=>(by have h:=rcompare_any a (1:Rat) na.rm (RN.rl (K:=10000) rn_1) w R.toEnvR;simp only [rb_1] at h;exact h)
 have gm:k.tmod 2=1:=hm
 have gk:0≤k∧k≤7:=hk
 have gl:a.num.sign < 0:=hl
 have gh:(a - (1:Rat)).num.sign=0:=hh
 have el:(a.num.sign == 0)=false:=beq_eq_false_iff_ne.2 (by omega)
 obtain ⟨Ai,Ad⟩:∃ vq,ratB a=vq:=⟨_,rfl⟩
 try simp only [Ad] at c1 c2 c3 gm gk gl gh el ⊢
 obtain ⟨lo,elo⟩:∃ vq,a.num.sign=vq:=⟨_,rfl⟩
 try simp only [elo] at c1 c2 c3 gm gk gl gh el ⊢
 obtain ⟨hi,ehi⟩:∃ vq,(a - (1:Rat)).num.sign=vq:=⟨_,rfl⟩
 try simp only [ehi] at c1 c2 c3 gm gk gl gh el ⊢
 have C1:=Lib.hid c1
 have C2:=Lib.hid c2
 have C3:=Lib.hid c3
 clear c1 c2 c3 Ad elo ehi Ac na hm hk hl hh
 have hb:=Below.refl w.heap.size w
 go_enter Tryz.func30,Tryz.ntmps30
 go_upto_region 1 with fail
 refine wp_alloc1 (fun w1 a0 hk=>?_)
 replace hb:=hb.trans (hk.mono hb.size)
 clear hk
 obtain ⟨Aa,Ab⟩:=ce2 a0
 go_upto_region 5 with (go_at_call 21;with_reducible refine (zL hb (C1.out _ (R.below hb))).mono ?_;clear hb;rintro e w1 ⟨rfl,hk,hb⟩;clear Aa Ab;replace a0:=zB hk a0;obtain ⟨Aa,Ab⟩:=ce2 a0;clear hk)
 obtain ⟨Ag,Ah⟩:=cy2 a0
 have Ae:=rrV C2 R hb
 have Af:=rrV C3 R hb
 refine wp_region_quiet_below (by first | assumption | kernel_rfl) (by kernel_rfl) ?_
 repeat (quiet_step (first | (with_reducible exact Ae.out _ _) | (with_reducible exact Af.out _ _)))
 refine wpQuiet_nil ?_
 intro w1 hw'
 obtain ⟨hk,hb⟩:=zQ hb hw'
 clear Aa Ab
 replace a0:=zB hk a0
 obtain ⟨Aa,Ab⟩:=ce2 a0
 clear Ae Af Ag Ah
 clear hk hw'
 go_wp2
 first | go_ret | go_ret2 | go_ret3
 exact ⟨rfl,hb⟩
theorem ckp_1np  (k:Int) (a:Rat) (na:RN a 24 24) (hm:k.tmod 2=1) (hk:0≤k∧k≤7) (hl:a.num.sign < 0) (hh:0 < (a - (1:Rat)).num.sign) (w:World) (R:EnvV w) :
   Calls Tryz.prog 69 #[.agg #[.int .i64 k,.string (ratB a)]] w (Ret w (.int .i64 3)):=by
 have Ac:=na.rl (K:=100000)
 have c1:=fun (w:World) (R:EnvV w)=>rcheck_any (ratB a) 0 (Or.inl ⟨isRat_of (na.rl (K:=200)),rfl⟩) (Nat.le_trans (size_of_RL (na.rl (K:=200))) (by decide)) w R.toEnvR
 have c2:=fun (w:World) (R:EnvV w)=>rsign_any a Ac w R.toEnvR
 have c3:CV 31 #[.string (ratB a),.string ⟨#[49]⟩] (.int .i64 (a - (1:Rat)).num.sign):=fun w R=>(by have h:=rcompare_any a (1:Rat) na.rm (RN.rl (K:=10000) rn_1) w R.toEnvR;simp only [rb_1] at h;exact h)
 have c4:=isBack_1 k (ratB a) hm hk
 have gm:k.tmod 2=1:=hm
 have gk:0≤k∧k≤7:=hk
 have gl:a.num.sign < 0:=hl
 have gh:0 < (a - (1:Rat)).num.sign:=hh
 have el:(a.num.sign == 0)=false:=beq_eq_false_iff_ne.2 (by omega)
 have eh:((a - (1:Rat)).num.sign == 0)=false:=beq_eq_false_iff_ne.2 (by omega)
 obtain ⟨Ai,Ad⟩:∃ vq,ratB a=vq:=⟨_,rfl⟩
 try simp only [Ad] at c1 c2 c3 c4 gm gk gl gh el eh ⊢
 obtain ⟨lo,elo⟩:∃ vq,a.num.sign=vq:=⟨_,rfl⟩
 try simp only [elo] at c1 c2 c3 c4 gm gk gl gh el eh ⊢
 obtain ⟨hi,ehi⟩:∃ vq,(a - (1:Rat)).num.sign=vq:=⟨_,rfl⟩
 try simp only [ehi] at c1 c2 c3 c4 gm gk gl gh el eh ⊢
 have C1:=Lib.hid c1
 have C2:=Lib.hid c2
 have C3:=Lib.hid c3
 have C4:=Lib.hid c4
 clear c1 c2 c3 c4 Ad elo ehi Ac na hm hk hl hh
 have hb:=Below.refl w.heap.size w
 go_enter Tryz.func69,Tryz.ntmps69
 go_upto_region 1 with fail
 refine wp_alloc1 (fun w1 a0 hk=>?_)
 replace hb:=hb.trans (hk.mono hb.size)
 clear hk
 obtain ⟨Aa,Ab⟩:=ce2 a0
 go_upto_region 6 with (go_at_call 78;with_reducible refine (chVB hb R C1).mono ?_;clear hb;rintro e w1 ⟨rfl,hk,hb⟩;clear Aa Ab;replace a0:=zB hk a0;obtain ⟨Aa,Ab⟩:=ce2 a0;clear hk)
 obtain ⟨Ag,Ah⟩:=cy2 a0
 have Ae:=rrV C2 R hb
 have Af:=rrV C3 R hb
 refine wp_region_quiet_below (by first | assumption | kernel_rfl) (by kernel_rfl) ?_
 repeat (quiet_step (first | (with_reducible exact Ae.out _ _) | (with_reducible exact Af.out _ _)))
 refine wpQuiet_nil ?_
 intro w1 hw'
 obtain ⟨hk,hb⟩:=zQ hb hw'
 clear Aa Ab
 replace a0:=zB hk a0
 obtain ⟨Aa,Ab⟩:=ce2 a0
 clear Ae Af Ag Ah
 clear hk hw'
 go_wp2_with (go_at_call 71;with_reducible refine (chVB hb R C4).mono ?_;clear hb;rintro e w1 ⟨rfl,hk,hb⟩;clear Aa Ab;replace a0:=zB hk a0;obtain ⟨Aa,Ab⟩:=ce2 a0;clear hk)
 first | go_ret | go_ret2 | go_ret3
 exact ⟨rfl,hb⟩
theorem ckl_1np  (k:Int) (a:Rat) (na:RN a 24 24) (hm:k.tmod 2=1) (hk:0≤k∧k≤7) (hl:a.num.sign < 0) (hh:0 < (a - (1:Rat)).num.sign) (w:World) (R:EnvV w) :
   Calls Tryz.prog 30 #[.agg #[.int .i64 k,.string (ratB a)]] w (Ret w (.int .i64 3)):=by
 have Ac:=na.rl (K:=100000)
 have c1:∀ w,EnvV w→Calls Tryz.prog 21 #[.slice (some ⟨w.heap.size,0,none⟩) 1 1] (w.alloc (Obj.cells #[Value.string (ratB a)] 22)) (Ret w (.bool true)):=fun w R=>right1 (ratB a) true ⟨fun _=>isRat_of (na.rl (K:=200)),fun _=>rfl⟩ (Nat.le_trans (size_of_RL (na.rl (K:=200))) (by decide)) w R
 have c2:=fun (w:World) (R:EnvV w)=>rsign_any a Ac w R.toEnvR
 have c3:CV 31 #[.string (ratB a),.string ⟨#[49]⟩] (.int .i64 (a - (1:Rat)).num.sign):=fun w R=>(by have h:=rcompare_any a (1:Rat) na.rm (RN.rl (K:=10000) rn_1) w R.toEnvR;simp only [rb_1] at h;exact h)
 have gm:k.tmod 2=1:=hm
 have gk:0≤k∧k≤7:=hk
 have gl:a.num.sign < 0:=hl
 have gh:0 < (a - (1:Rat)).num.sign:=hh
 have el:(a.num.sign == 0)=false:=beq_eq_false_iff_ne.2 (by omega)
 have eh:((a - (1:Rat)).num.sign == 0)=false:=beq_eq_false_iff_ne.2 (by omega)
 obtain ⟨Ai,Ad⟩:∃ vq,ratB a=vq:=⟨_,rfl⟩
 try simp only [Ad] at c1 c2 c3 gm gk gl gh el eh ⊢
 obtain ⟨lo,elo⟩:∃ vq,a.num.sign=vq:=⟨_,rfl⟩
 try simp only [elo] at c1 c2 c3 gm gk gl gh el eh ⊢
 obtain ⟨hi,ehi⟩:∃ vq,(a - (1:Rat)).num.sign=vq:=⟨_,rfl⟩
 try simp only [ehi] at c1 c2 c3 gm gk gl gh el eh ⊢
 have C1:=Lib.hid c1
 have C2:=Lib.hid c2
 have C3:=Lib.hid c3
 clear c1 c2 c3 Ad elo ehi Ac na hm hk hl hh
 have hb:=Below.refl w.heap.size w
 go_enter Tryz.func30,Tryz.ntmps30
 go_upto_region 1 with fail
 refine wp_alloc1 (fun w1 a0 hk=>?_)
 replace hb:=hb.trans (hk.mono hb.size)
 clear hk
 obtain ⟨Aa,Ab⟩:=ce2 a0
 go_upto_region 5 with (go_at_call 21;with_reducible refine (zL hb (C1.out _ (R.below hb))).mono ?_;clear hb;rintro e w1 ⟨rfl,hk,hb⟩;clear Aa Ab;replace a0:=zB hk a0;obtain ⟨Aa,Ab⟩:=ce2 a0;clear hk)
 obtain ⟨Ag,Ah⟩:=cy2 a0
 have Ae:=rrV C2 R hb
 have Af:=rrV C3 R hb
 refine wp_region_quiet_below (by first | assumption | kernel_rfl) (by kernel_rfl) ?_
 repeat (quiet_step (first | (with_reducible exact Ae.out _ _) | (with_reducible exact Af.out _ _)))
 refine wpQuiet_nil ?_
 intro w1 hw'
 obtain ⟨hk,hb⟩:=zQ hb hw'
 clear Aa Ab
 replace a0:=zB hk a0
 obtain ⟨Aa,Ab⟩:=ce2 a0
 clear Ae Af Ag Ah
 clear hk hw'
 go_wp2
 first | go_ret | go_ret2 | go_ret3
 exact ⟨rfl,hb⟩
theorem ckp_1zn  (k:Int) (a:Rat) (na:RN a 24 24) (hm:k.tmod 2=1) (hk:0≤k∧k≤7) (hl:a.num.sign=0) (hh:(a - (1:Rat)).num.sign < 0) (w:World) (R:EnvV w) :
   Calls Tryz.prog 69 #[.agg #[.int .i64 k,.string (ratB a)]] w (Ret w (.int .i64 3)):=by
 have Ac:=na.rl (K:=100000)
 have c1:=fun (w:World) (R:EnvV w)=>rcheck_any (ratB a) 0 (Or.inl ⟨isRat_of (na.rl (K:=200)),rfl⟩) (Nat.le_trans (size_of_RL (na.rl (K:=200))) (by decide)) w R.toEnvR
 have c2:=fun (w:World) (R:EnvV w)=>rsign_any a Ac w R.toEnvR
 have c3:CV 31 #[.string (ratB a),.string ⟨#[49]⟩] (.int .i64 (a - (1:Rat)).num.sign):=fun w R=>(by have h:=rcompare_any a (1:Rat) na.rm (RN.rl (K:=10000) rn_1) w R.toEnvR;simp only [rb_1] at h;exact h)
 have c4:=isBack_1 k (ratB a) hm hk
 have gm:k.tmod 2=1:=hm
 have gk:0≤k∧k≤7:=hk
 have gl:a.num.sign=0:=hl
 have gh:(a - (1:Rat)).num.sign < 0:=hh
 have eh:((a - (1:Rat)).num.sign == 0)=false:=beq_eq_false_iff_ne.2 (by omega)
 obtain ⟨Ai,Ad⟩:∃ vq,ratB a=vq:=⟨_,rfl⟩
 try simp only [Ad] at c1 c2 c3 c4 gm gk gl gh eh ⊢
 obtain ⟨lo,elo⟩:∃ vq,a.num.sign=vq:=⟨_,rfl⟩
 try simp only [elo] at c1 c2 c3 c4 gm gk gl gh eh ⊢
 obtain ⟨hi,ehi⟩:∃ vq,(a - (1:Rat)).num.sign=vq:=⟨_,rfl⟩
 try simp only [ehi] at c1 c2 c3 c4 gm gk gl gh eh ⊢
 have C1:=Lib.hid c1
 have C2:=Lib.hid c2
 have C3:=Lib.hid c3
 have C4:=Lib.hid c4
 clear c1 c2 c3 c4 Ad elo ehi Ac na hm hk hl hh
 have hb:=Below.refl w.heap.size w
 go_enter Tryz.func69,Tryz.ntmps69
 go_upto_region 1 with fail
 refine wp_alloc1 (fun w1 a0 hk=>?_)
 replace hb:=hb.trans (hk.mono hb.size)
 clear hk
 obtain ⟨Aa,Ab⟩:=ce2 a0
 go_upto_region 6 with (go_at_call 78;with_reducible refine (chVB hb R C1).mono ?_;clear hb;rintro e w1 ⟨rfl,hk,hb⟩;clear Aa Ab;replace a0:=zB hk a0;obtain ⟨Aa,Ab⟩:=ce2 a0;clear hk)
 obtain ⟨Ag,Ah⟩:=cy2 a0
 have Ae:=rrV C2 R hb
 have Af:=rrV C3 R hb
 refine wp_region_quiet_below (by first | assumption | kernel_rfl) (by kernel_rfl) ?_
 repeat (quiet_step (first | (with_reducible exact Ae.out _ _) | (with_reducible exact Af.out _ _)))
 refine wpQuiet_nil ?_
 intro w1 hw'
 obtain ⟨hk,hb⟩:=zQ hb hw'
 clear Aa Ab
 replace a0:=zB hk a0
 obtain ⟨Aa,Ab⟩:=ce2 a0
 clear Ae Af Ag Ah
 clear hk hw'
 go_wp2_with (go_at_call 71;with_reducible refine (chVB hb R C4).mono ?_;clear hb;rintro e w1 ⟨rfl,hk,hb⟩;clear Aa Ab;replace a0:=zB hk a0;obtain ⟨Aa,Ab⟩:=ce2 a0;clear hk)
 first | go_ret | go_ret2 | go_ret3
 exact ⟨rfl,hb⟩
theorem ckl_1zn  (k:Int) (a:Rat) (na:RN a 24 24) (hm:k.tmod 2=1) (hk:0≤k∧k≤7) (hl:a.num.sign=0) (hh:(a - (1:Rat)).num.sign < 0) (w:World) (R:EnvV w) :
   Calls Tryz.prog 30 #[.agg #[.int .i64 k,.string (ratB a)]] w (Ret w (.int .i64 3)):=by
 have Ac:=na.rl (K:=100000)
 have c1:∀ w,EnvV w→Calls Tryz.prog 21 #[.slice (some ⟨w.heap.size,0,none⟩) 1 1] (w.alloc (Obj.cells #[Value.string (ratB a)] 22)) (Ret w (.bool true)):=fun w R=>right1 (ratB a) true ⟨fun _=>isRat_of (na.rl (K:=200)),fun _=>rfl⟩ (Nat.le_trans (size_of_RL (na.rl (K:=200))) (by decide)) w R
 have c2:=fun (w:World) (R:EnvV w)=>rsign_any a Ac w R.toEnvR
 have c3:CV 31 #[.string (ratB a),.string ⟨#[49]⟩] (.int .i64 (a - (1:Rat)).num.sign):=fun w R=>(by have h:=rcompare_any a (1:Rat) na.rm (RN.rl (K:=10000) rn_1) w R.toEnvR;simp only [rb_1] at h;exact h)
 have gm:k.tmod 2=1:=hm
 have gk:0≤k∧k≤7:=hk
 have gl:a.num.sign=0:=hl
 have gh:(a - (1:Rat)).num.sign < 0:=hh
 have eh:((a - (1:Rat)).num.sign == 0)=false:=beq_eq_false_iff_ne.2 (by omega)
 obtain ⟨Ai,Ad⟩:∃ vq,ratB a=vq:=⟨_,rfl⟩
 try simp only [Ad] at c1 c2 c3 gm gk gl gh eh ⊢
 obtain ⟨lo,elo⟩:∃ vq,a.num.sign=vq:=⟨_,rfl⟩
 try simp only [elo] at c1 c2 c3 gm gk gl gh eh ⊢
 obtain ⟨hi,ehi⟩:∃ vq,(a - (1:Rat)).num.sign=vq:=⟨_,rfl⟩
 try simp only [ehi] at c1 c2 c3 gm gk gl gh eh ⊢
 have C1:=Lib.hid c1
 have C2:=Lib.hid c2
 have C3:=Lib.hid c3
 clear c1 c2 c3 Ad elo ehi Ac na hm hk hl hh
 have hb:=Below.refl w.heap.size w
 go_enter Tryz.func30,Tryz.ntmps30
 go_upto_region 1 with fail
 refine wp_alloc1 (fun w1 a0 hk=>?_)
 replace hb:=hb.trans (hk.mono hb.size)
 clear hk
 obtain ⟨Aa,Ab⟩:=ce2 a0
 go_upto_region 5 with (go_at_call 21;with_reducible refine (zL hb (C1.out _ (R.below hb))).mono ?_;clear hb;rintro e w1 ⟨rfl,hk,hb⟩;clear Aa Ab;replace a0:=zB hk a0;obtain ⟨Aa,Ab⟩:=ce2 a0;clear hk)
 obtain ⟨Ag,Ah⟩:=cy2 a0
 have Ae:=rrV C2 R hb
 have Af:=rrV C3 R hb
 refine wp_region_quiet_below (by first | assumption | kernel_rfl) (by kernel_rfl) ?_
 repeat (quiet_step (first | (with_reducible exact Ae.out _ _) | (with_reducible exact Af.out _ _)))
 refine wpQuiet_nil ?_
 intro w1 hw'
 obtain ⟨hk,hb⟩:=zQ hb hw'
 clear Aa Ab
 replace a0:=zB hk a0
 obtain ⟨Aa,Ab⟩:=ce2 a0
 clear Ae Af Ag Ah
 clear hk hw'
 go_wp2
 first | go_ret | go_ret2 | go_ret3
 exact ⟨rfl,hb⟩
theorem ckp_1zz  (k:Int) (a:Rat) (na:RN a 24 24) (hm:k.tmod 2=1) (hk:0≤k∧k≤7) (hl:a.num.sign=0) (hh:(a - (1:Rat)).num.sign=0) (w:World) (R:EnvV w) :
   Calls Tryz.prog 69 #[.agg #[.int .i64 k,.string (ratB a)]] w (Ret w (.int .i64 3)):=by
 have Ac:=na.rl (K:=100000)
 have c1:=fun (w:World) (R:EnvV w)=>rcheck_any (ratB a) 0 (Or.inl ⟨isRat_of (na.rl (K:=200)),rfl⟩) (Nat.le_trans (size_of_RL (na.rl (K:=200))) (by decide)) w R.toEnvR
 have c2:=fun (w:World) (R:EnvV w)=>rsign_any a Ac w R.toEnvR
 have c3:CV 31 #[.string (ratB a),.string ⟨#[49]⟩] (.int .i64 (a - (1:Rat)).num.sign):=fun w R=>(by have h:=rcompare_any a (1:Rat) na.rm (RN.rl (K:=10000) rn_1) w R.toEnvR;simp only [rb_1] at h;exact h)
 have c4:=isBack_1 k (ratB a) hm hk
 have gm:k.tmod 2=1:=hm
 have gk:0≤k∧k≤7:=hk
 have gl:a.num.sign=0:=hl
 have gh:(a - (1:Rat)).num.sign=0:=hh
 obtain ⟨Ai,Ad⟩:∃ vq,ratB a=vq:=⟨_,rfl⟩
 try simp only [Ad] at c1 c2 c3 c4 gm gk gl gh ⊢
 obtain ⟨lo,elo⟩:∃ vq,a.num.sign=vq:=⟨_,rfl⟩
 try simp only [elo] at c1 c2 c3 c4 gm gk gl gh ⊢
 obtain ⟨hi,ehi⟩:∃ vq,(a - (1:Rat)).num.sign=vq:=⟨_,rfl⟩
 try simp only [ehi] at c1 c2 c3 c4 gm gk gl gh ⊢
 have C1:=Lib.hid c1
 have C2:=Lib.hid c2
 have C3:=Lib.hid c3
 have C4:=Lib.hid c4
 clear c1 c2 c3 c4 Ad elo ehi Ac na hm hk hl hh
 have hb:=Below.refl w.heap.size w
 go_enter Tryz.func69,Tryz.ntmps69
 go_upto_region 1 with fail
 refine wp_alloc1 (fun w1 a0 hk=>?_)
 replace hb:=hb.trans (hk.mono hb.size)
 clear hk
 obtain ⟨Aa,Ab⟩:=ce2 a0
 go_upto_region 6 with (go_at_call 78;with_reducible refine (chVB hb R C1).mono ?_;clear hb;rintro e w1 ⟨rfl,hk,hb⟩;clear Aa Ab;replace a0:=zB hk a0;obtain ⟨Aa,Ab⟩:=ce2 a0;clear hk)
 obtain ⟨Ag,Ah⟩:=cy2 a0
 have Ae:=rrV C2 R hb
 have Af:=rrV C3 R hb
 refine wp_region_quiet_below (by first | assumption | kernel_rfl) (by kernel_rfl) ?_
 repeat (quiet_step (first | (with_reducible exact Ae.out _ _) | (with_reducible exact Af.out _ _)))
 refine wpQuiet_nil ?_
 intro w1 hw'
 obtain ⟨hk,hb⟩:=zQ hb hw'
 clear Aa Ab
 replace a0:=zB hk a0
 obtain ⟨Aa,Ab⟩:=ce2 a0
 clear Ae Af Ag Ah
 clear hk hw'
 go_wp2_with (go_at_call 71;with_reducible refine (chVB hb R C4).mono ?_;clear hb;rintro e w1 ⟨rfl,hk,hb⟩;clear Aa Ab;replace a0:=zB hk a0;obtain ⟨Aa,Ab⟩:=ce2 a0;clear hk)
 first | go_ret | go_ret2 | go_ret3
 exact ⟨rfl,hb⟩
theorem ckl_1zz  (k:Int) (a:Rat) (na:RN a 24 24) (hm:k.tmod 2=1) (hk:0≤k∧k≤7) (hl:a.num.sign=0) (hh:(a - (1:Rat)).num.sign=0) (w:World) (R:EnvV w) :
   Calls Tryz.prog 30 #[.agg #[.int .i64 k,.string (ratB a)]] w (Ret w (.int .i64 3)):=by
 have Ac:=na.rl (K:=100000)
 have c1:∀ w,EnvV w→Calls Tryz.prog 21 #[.slice (some ⟨w.heap.size,0,none⟩) 1 1] (w.alloc (Obj.cells #[Value.string (ratB a)] 22)) (Ret w (.bool true)):=fun w R=>right1 (ratB a) true ⟨fun _=>isRat_of (na.rl (K:=200)),fun _=>rfl⟩ (Nat.le_trans (size_of_RL (na.rl (K:=200))) (by decide)) w R
 have c2:=fun (w:World) (R:EnvV w)=>rsign_any a Ac w R.toEnvR
 have c3:CV 31 #[.string (ratB a),.string ⟨#[49]⟩] (.int .i64 (a - (1:Rat)).num.sign):=fun w R=>(by have h:=rcompare_any a (1:Rat) na.rm (RN.rl (K:=10000) rn_1) w R.toEnvR;simp only [rb_1] at h;exact h)
 have gm:k.tmod 2=1:=hm
 have gk:0≤k∧k≤7:=hk
 have gl:a.num.sign=0:=hl
 have gh:(a - (1:Rat)).num.sign=0:=hh
 obtain ⟨Ai,Ad⟩:∃ vq,ratB a=vq:=⟨_,rfl⟩
 try simp only [Ad] at c1 c2 c3 gm gk gl gh ⊢
 obtain ⟨lo,elo⟩:∃ vq,a.num.sign=vq:=⟨_,rfl⟩
 try simp only [elo] at c1 c2 c3 gm gk gl gh ⊢
 obtain ⟨hi,ehi⟩:∃ vq,(a - (1:Rat)).num.sign=vq:=⟨_,rfl⟩
 try simp only [ehi] at c1 c2 c3 gm gk gl gh ⊢
 have C1:=Lib.hid c1
 have C2:=Lib.hid c2
 have C3:=Lib.hid c3
 clear c1 c2 c3 Ad elo ehi Ac na hm hk hl hh
 have hb:=Below.refl w.heap.size w
 go_enter Tryz.func30,Tryz.ntmps30
 go_upto_region 1 with fail
 refine wp_alloc1 (fun w1 a0 hk=>?_)
 replace hb:=hb.trans (hk.mono hb.size)
 clear hk
 obtain ⟨Aa,Ab⟩:=ce2 a0
 go_upto_region 5 with (go_at_call 21;with_reducible refine (zL hb (C1.out _ (R.below hb))).mono ?_;clear hb;rintro e w1 ⟨rfl,hk,hb⟩;clear Aa Ab;replace a0:=zB hk a0;obtain ⟨Aa,Ab⟩:=ce2 a0;clear hk)
 obtain ⟨Ag,Ah⟩:=cy2 a0
 have Ae:=rrV C2 R hb
 have Af:=rrV C3 R hb
 refine wp_region_quiet_below (by first | assumption | kernel_rfl) (by kernel_rfl) ?_
 repeat (quiet_step (first | (with_reducible exact Ae.out _ _) | (with_reducible exact Af.out _ _)))
 refine wpQuiet_nil ?_
 intro w1 hw'
 obtain ⟨hk,hb⟩:=zQ hb hw'
 clear Aa Ab
 replace a0:=zB hk a0
 obtain ⟨Aa,Ab⟩:=ce2 a0
 clear Ae Af Ag Ah
 clear hk hw'
 go_wp2
 first | go_ret | go_ret2 | go_ret3
 exact ⟨rfl,hb⟩
theorem ckp_1zp  (k:Int) (a:Rat) (na:RN a 24 24) (hm:k.tmod 2=1) (hk:0≤k∧k≤7) (hl:a.num.sign=0) (hh:0 < (a - (1:Rat)).num.sign) (w:World) (R:EnvV w) :
   Calls Tryz.prog 69 #[.agg #[.int .i64 k,.string (ratB a)]] w (Ret w (.int .i64 3)):=by
 have Ac:=na.rl (K:=100000)
 have c1:=fun (w:World) (R:EnvV w)=>rcheck_any (ratB a) 0 (Or.inl ⟨isRat_of (na.rl (K:=200)),rfl⟩) (Nat.le_trans (size_of_RL (na.rl (K:=200))) (by decide)) w R.toEnvR
 have c2:=fun (w:World) (R:EnvV w)=>rsign_any a Ac w R.toEnvR
 have c3:CV 31 #[.string (ratB a),.string ⟨#[49]⟩] (.int .i64 (a - (1:Rat)).num.sign):=fun w R=>(by have h:=rcompare_any a (1:Rat) na.rm (RN.rl (K:=10000) rn_1) w R.toEnvR;simp only [rb_1] at h;exact h)
 have c4:=isBack_1 k (ratB a) hm hk
 have gm:k.tmod 2=1:=hm
 have gk:0≤k∧k≤7:=hk
 have gl:a.num.sign=0:=hl
 have gh:0 < (a - (1:Rat)).num.sign:=hh
 have eh:((a - (1:Rat)).num.sign == 0)=false:=beq_eq_false_iff_ne.2 (by omega)
 obtain ⟨Ai,Ad⟩:∃ vq,ratB a=vq:=⟨_,rfl⟩
 try simp only [Ad] at c1 c2 c3 c4 gm gk gl gh eh ⊢
 obtain ⟨lo,elo⟩:∃ vq,a.num.sign=vq:=⟨_,rfl⟩
 try simp only [elo] at c1 c2 c3 c4 gm gk gl gh eh ⊢
 obtain ⟨hi,ehi⟩:∃ vq,(a - (1:Rat)).num.sign=vq:=⟨_,rfl⟩
 try simp only [ehi] at c1 c2 c3 c4 gm gk gl gh eh ⊢
 have C1:=Lib.hid c1
 have C2:=Lib.hid c2
 have C3:=Lib.hid c3
 have C4:=Lib.hid c4
 clear c1 c2 c3 c4 Ad elo ehi Ac na hm hk hl hh
 have hb:=Below.refl w.heap.size w
 go_enter Tryz.func69,Tryz.ntmps69
 go_upto_region 1 with fail
 refine wp_alloc1 (fun w1 a0 hk=>?_)
 replace hb:=hb.trans (hk.mono hb.size)
 clear hk
 obtain ⟨Aa,Ab⟩:=ce2 a0
 go_upto_region 6 with (go_at_call 78;with_reducible refine (chVB hb R C1).mono ?_;clear hb;rintro e w1 ⟨rfl,hk,hb⟩;clear Aa Ab;replace a0:=zB hk a0;obtain ⟨Aa,Ab⟩:=ce2 a0;clear hk)
 obtain ⟨Ag,Ah⟩:=cy2 a0
 have Ae:=rrV C2 R hb
 have Af:=rrV C3 R hb
 refine wp_region_quiet_below (by first | assumption | kernel_rfl) (by kernel_rfl) ?_
 repeat (quiet_step (first | (with_reducible exact Ae.out _ _) | (with_reducible exact Af.out _ _)))
 refine wpQuiet_nil ?_
 intro w1 hw'
 obtain ⟨hk,hb⟩:=zQ hb hw'
 clear Aa Ab
 replace a0:=zB hk a0
 obtain ⟨Aa,Ab⟩:=ce2 a0
 clear Ae Af Ag Ah
 clear hk hw'
 go_wp2_with (go_at_call 71;with_reducible refine (chVB hb R C4).mono ?_;clear hb;rintro e w1 ⟨rfl,hk,hb⟩;clear Aa Ab;replace a0:=zB hk a0;obtain ⟨Aa,Ab⟩:=ce2 a0;clear hk)
 first | go_ret | go_ret2 | go_ret3
 exact ⟨rfl,hb⟩
theorem ckl_1zp  (k:Int) (a:Rat) (na:RN a 24 24) (hm:k.tmod 2=1) (hk:0≤k∧k≤7) (hl:a.num.sign=0) (hh:0 < (a - (1:Rat)).num.sign) (w:World) (R:EnvV w) :
   Calls Tryz.prog 30 #[.agg #[.int .i64 k,.string (ratB a)]] w (Ret w (.int .i64 3)):=by
 have Ac:=na.rl (K:=100000)
 have c1:∀ w,EnvV w→Calls Tryz.prog 21 #[.slice (some ⟨w.heap.size,0,none⟩) 1 1] (w.alloc (Obj.cells #[Value.string (ratB a)] 22)) (Ret w (.bool true)):=fun w R=>right1 (ratB a) true ⟨fun _=>isRat_of (na.rl (K:=200)),fun _=>rfl⟩ (Nat.le_trans (size_of_RL (na.rl (K:=200))) (by decide)) w R
 have c2:=fun (w:World) (R:EnvV w)=>rsign_any a Ac w R.toEnvR
 have c3:CV 31 #[.string (ratB a),.string ⟨#[49]⟩] (.int .i64 (a - (1:Rat)).num.sign):=fun w R=>(by have h:=rcompare_any a (1:Rat) na.rm (RN.rl (K:=10000) rn_1) w R.toEnvR;simp only [rb_1] at h;exact h)
 have gm:k.tmod 2=1:=hm
 have gk:0≤k∧k≤7:=hk
 have gl:a.num.sign=0:=hl
 have gh:0 < (a - (1:Rat)).num.sign:=hh
 have eh:((a - (1:Rat)).num.sign == 0)=false:=beq_eq_false_iff_ne.2 (by omega)
 obtain ⟨Ai,Ad⟩:∃ vq,ratB a=vq:=⟨_,rfl⟩
 try simp only [Ad] at c1 c2 c3 gm gk gl gh eh ⊢
 obtain ⟨lo,elo⟩:∃ vq,a.num.sign=vq:=⟨_,rfl⟩
 try simp only [elo] at c1 c2 c3 gm gk gl gh eh ⊢
 obtain ⟨hi,ehi⟩:∃ vq,(a - (1:Rat)).num.sign=vq:=⟨_,rfl⟩
 try simp only [ehi] at c1 c2 c3 gm gk gl gh eh ⊢
 have C1:=Lib.hid c1
 have C2:=Lib.hid c2
 have C3:=Lib.hid c3
 clear c1 c2 c3 Ad elo ehi Ac na hm hk hl hh
 have hb:=Below.refl w.heap.size w
 go_enter Tryz.func30,Tryz.ntmps30
 go_upto_region 1 with fail
 refine wp_alloc1 (fun w1 a0 hk=>?_)
 replace hb:=hb.trans (hk.mono hb.size)
 clear hk
 obtain ⟨Aa,Ab⟩:=ce2 a0
 go_upto_region 5 with (go_at_call 21;with_reducible refine (zL hb (C1.out _ (R.below hb))).mono ?_;clear hb;rintro e w1 ⟨rfl,hk,hb⟩;clear Aa Ab;replace a0:=zB hk a0;obtain ⟨Aa,Ab⟩:=ce2 a0;clear hk)
 obtain ⟨Ag,Ah⟩:=cy2 a0
 have Ae:=rrV C2 R hb
 have Af:=rrV C3 R hb
 refine wp_region_quiet_below (by first | assumption | kernel_rfl) (by kernel_rfl) ?_
 repeat (quiet_step (first | (with_reducible exact Ae.out _ _) | (with_reducible exact Af.out _ _)))
 refine wpQuiet_nil ?_
 intro w1 hw'
 obtain ⟨hk,hb⟩:=zQ hb hw'
 clear Aa Ab
 replace a0:=zB hk a0
 obtain ⟨Aa,Ab⟩:=ce2 a0
 clear Ae Af Ag Ah
 clear hk hw'
 go_wp2
 first | go_ret | go_ret2 | go_ret3
 exact ⟨rfl,hb⟩
theorem ckp_1pn  (k:Int) (a:Rat) (na:RN a 24 24) (hm:k.tmod 2=1) (hk:0≤k∧k≤7) (hl:0 < a.num.sign) (hh:(a - (1:Rat)).num.sign < 0) (w:World) (R:EnvV w) :
   Calls Tryz.prog 69 #[.agg #[.int .i64 k,.string (ratB a)]] w (Ret w (.int .i64 0)):=by
 have Ac:=na.rl (K:=100000)
 have c1:=fun (w:World) (R:EnvV w)=>rcheck_any (ratB a) 0 (Or.inl ⟨isRat_of (na.rl (K:=200)),rfl⟩) (Nat.le_trans (size_of_RL (na.rl (K:=200))) (by decide)) w R.toEnvR
 have c2:=fun (w:World) (R:EnvV w)=>rsign_any a Ac w R.toEnvR
 have c3:CV 31 #[.string (ratB a),.string ⟨#[49]⟩] (.int .i64 (a - (1:Rat)).num.sign):=fun w R=>(by have h:=rcompare_any a (1:Rat) na.rm (RN.rl (K:=10000) rn_1) w R.toEnvR;simp only [rb_1] at h;exact h)
 have c4:=isBack_1 k (ratB a) hm hk
 have gm:k.tmod 2=1:=hm
 have gk:0≤k∧k≤7:=hk
 have gl:0 < a.num.sign:=hl
 have gh:(a - (1:Rat)).num.sign < 0:=hh
 have el:(a.num.sign == 0)=false:=beq_eq_false_iff_ne.2 (by omega)
 have eh:((a - (1:Rat)).num.sign == 0)=false:=beq_eq_false_iff_ne.2 (by omega)
 obtain ⟨Ai,Ad⟩:∃ vq,ratB a=vq:=⟨_,rfl⟩
 try simp only [Ad] at c1 c2 c3 c4 gm gk gl gh el eh ⊢
 obtain ⟨lo,elo⟩:∃ vq,a.num.sign=vq:=⟨_,rfl⟩
 try simp only [elo] at c1 c2 c3 c4 gm gk gl gh el eh ⊢
 obtain ⟨hi,ehi⟩:∃ vq,(a - (1:Rat)).num.sign=vq:=⟨_,rfl⟩
 try simp only [ehi] at c1 c2 c3 c4 gm gk gl gh el eh ⊢
 have C1:=Lib.hid c1
 have C2:=Lib.hid c2
 have C3:=Lib.hid c3
 have C4:=Lib.hid c4
 clear c1 c2 c3 c4 Ad elo ehi Ac na hm hk hl hh
 have hb:=Below.refl w.heap.size w
 go_enter Tryz.func69,Tryz.ntmps69
 go_upto_region 1 with fail
 refine wp_alloc1 (fun w1 a0 hk=>?_)
 replace hb:=hb.trans (hk.mono hb.size)
 clear hk
 obtain ⟨Aa,Ab⟩:=ce2 a0
 go_upto_region 6 with (go_at_call 78;with_reducible refine (chVB hb R C1).mono ?_;clear hb;rintro e w1 ⟨rfl,hk,hb⟩;clear Aa Ab;replace a0:=zB hk a0;obtain ⟨Aa,Ab⟩:=ce2 a0;clear hk)
 obtain ⟨Ag,Ah⟩:=cy2 a0
 have Ae:=rrV C2 R hb
 have Af:=rrV C3 R hb
 refine wp_region_quiet_below (by first | assumption | kernel_rfl) (by kernel_rfl) ?_
 repeat (quiet_step (first | (with_reducible exact Ae.out _ _) | (with_reducible exact Af.out _ _)))
 refine wpQuiet_nil ?_
 intro w1 hw'
 obtain ⟨hk,hb⟩:=zQ hb hw'
 clear Aa Ab
 replace a0:=zB hk a0
 obtain ⟨Aa,Ab⟩:=ce2 a0
 clear Ae Af Ag Ah
 clear hk hw'
 go_wp2_with (go_at_call 71;with_reducible refine (chVB hb R C4).mono ?_;clear hb;rintro e w1 ⟨rfl,hk,hb⟩;clear Aa Ab;replace a0:=zB hk a0;obtain ⟨Aa,Ab⟩:=ce2 a0;clear hk)
 first | go_ret | go_ret2 | go_ret3
 exact ⟨rfl,hb⟩
theorem ckl_1pn  (k:Int) (a:Rat) (na:RN a 24 24) (hm:k.tmod 2=1) (hk:0≤k∧k≤7) (hl:0 < a.num.sign) (hh:(a - (1:Rat)).num.sign < 0) (w:World) (R:EnvV w) :
   Calls Tryz.prog 30 #[.agg #[.int .i64 k,.string (ratB a)]] w (Ret w (.int .i64 0)):=by
 have Ac:=na.rl (K:=100000)
 have c1:∀ w,EnvV w→Calls Tryz.prog 21 #[.slice (some ⟨w.heap.size,0,none⟩) 1 1] (w.alloc (Obj.cells #[Value.string (ratB a)] 22)) (Ret w (.bool true)):=fun w R=>right1 (ratB a) true ⟨fun _=>isRat_of (na.rl (K:=200)),fun _=>rfl⟩ (Nat.le_trans (size_of_RL (na.rl (K:=200))) (by decide)) w R
 have c2:=fun (w:World) (R:EnvV w)=>rsign_any a Ac w R.toEnvR
 have c3:CV 31 #[.string (ratB a),.string ⟨#[49]⟩] (.int .i64 (a - (1:Rat)).num.sign):=fun w R=>(by have h:=rcompare_any a (1:Rat) na.rm (RN.rl (K:=10000) rn_1) w R.toEnvR;simp only [rb_1] at h;exact h)
 have gm:k.tmod 2=1:=hm
 have gk:0≤k∧k≤7:=hk
 have gl:0 < a.num.sign:=hl
 have gh:(a - (1:Rat)).num.sign < 0:=hh
 have el:(a.num.sign == 0)=false:=beq_eq_false_iff_ne.2 (by omega)
 have eh:((a - (1:Rat)).num.sign == 0)=false:=beq_eq_false_iff_ne.2 (by omega)
 obtain ⟨Ai,Ad⟩:∃ vq,ratB a=vq:=⟨_,rfl⟩
 try simp only [Ad] at c1 c2 c3 gm gk gl gh el eh ⊢
 obtain ⟨lo,elo⟩:∃ vq,a.num.sign=vq:=⟨_,rfl⟩
 try simp only [elo] at c1 c2 c3 gm gk gl gh el eh ⊢
 obtain ⟨hi,ehi⟩:∃ vq,(a - (1:Rat)).num.sign=vq:=⟨_,rfl⟩
 try simp only [ehi] at c1 c2 c3 gm gk gl gh el eh ⊢
 have C1:=Lib.hid c1
 have C2:=Lib.hid c2
 have C3:=Lib.hid c3
 clear c1 c2 c3 Ad elo ehi Ac na hm hk hl hh
 have hb:=Below.refl w.heap.size w
 go_enter Tryz.func30,Tryz.ntmps30
 go_upto_region 1 with fail
 refine wp_alloc1 (fun w1 a0 hk=>?_)
 replace hb:=hb.trans (hk.mono hb.size)
 clear hk
 obtain ⟨Aa,Ab⟩:=ce2 a0
 go_upto_region 5 with (go_at_call 21;with_reducible refine (zL hb (C1.out _ (R.below hb))).mono ?_;clear hb;rintro e w1 ⟨rfl,hk,hb⟩;clear Aa Ab;replace a0:=zB hk a0;obtain ⟨Aa,Ab⟩:=ce2 a0;clear hk)
 obtain ⟨Ag,Ah⟩:=cy2 a0
 have Ae:=rrV C2 R hb
 have Af:=rrV C3 R hb
 refine wp_region_quiet_below (by first | assumption | kernel_rfl) (by kernel_rfl) ?_
 repeat (quiet_step (first | (with_reducible exact Ae.out _ _) | (with_reducible exact Af.out _ _)))
 refine wpQuiet_nil ?_
 intro w1 hw'
 obtain ⟨hk,hb⟩:=zQ hb hw'
 clear Aa Ab
 replace a0:=zB hk a0
 obtain ⟨Aa,Ab⟩:=ce2 a0
 clear Ae Af Ag Ah
 clear hk hw'
 go_wp2
 first | go_ret | go_ret2 | go_ret3
 exact ⟨rfl,hb⟩
theorem ckp_1pz  (k:Int) (a:Rat) (na:RN a 24 24) (hm:k.tmod 2=1) (hk:0≤k∧k≤7) (hl:0 < a.num.sign) (hh:(a - (1:Rat)).num.sign=0) (w:World) (R:EnvV w) :
   Calls Tryz.prog 69 #[.agg #[.int .i64 k,.string (ratB a)]] w (Ret w (.int .i64 0)):=by
 have Ac:=na.rl (K:=100000)
 have c1:=fun (w:World) (R:EnvV w)=>rcheck_any (ratB a) 0 (Or.inl ⟨isRat_of (na.rl (K:=200)),rfl⟩) (Nat.le_trans (size_of_RL (na.rl (K:=200))) (by decide)) w R.toEnvR
 have c2:=fun (w:World) (R:EnvV w)=>rsign_any a Ac w R.toEnvR
 have c3:CV 31 #[.string (ratB a),.string ⟨#[49]⟩] (.int .i64 (a - (1:Rat)).num.sign):=fun w R=>(by have h:=rcompare_any a (1:Rat) na.rm (RN.rl (K:=10000) rn_1) w R.toEnvR;simp only [rb_1] at h;exact h)
 have c4:=isBack_1 k (ratB a) hm hk
 have gm:k.tmod 2=1:=hm
 have gk:0≤k∧k≤7:=hk
 have gl:0 < a.num.sign:=hl
 have gh:(a - (1:Rat)).num.sign=0:=hh
 have el:(a.num.sign == 0)=false:=beq_eq_false_iff_ne.2 (by omega)
 obtain ⟨Ai,Ad⟩:∃ vq,ratB a=vq:=⟨_,rfl⟩
 try simp only [Ad] at c1 c2 c3 c4 gm gk gl gh el ⊢
 obtain ⟨lo,elo⟩:∃ vq,a.num.sign=vq:=⟨_,rfl⟩
 try simp only [elo] at c1 c2 c3 c4 gm gk gl gh el ⊢
 obtain ⟨hi,ehi⟩:∃ vq,(a - (1:Rat)).num.sign=vq:=⟨_,rfl⟩
 try simp only [ehi] at c1 c2 c3 c4 gm gk gl gh el ⊢
 have C1:=Lib.hid c1
 have C2:=Lib.hid c2
 have C3:=Lib.hid c3
 have C4:=Lib.hid c4
 clear c1 c2 c3 c4 Ad elo ehi Ac na hm hk hl hh
 have hb:=Below.refl w.heap.size w
 go_enter Tryz.func69,Tryz.ntmps69
 go_upto_region 1 with fail
 refine wp_alloc1 (fun w1 a0 hk=>?_)
 replace hb:=hb.trans (hk.mono hb.size)
 clear hk
 obtain ⟨Aa,Ab⟩:=ce2 a0
 go_upto_region 6 with (go_at_call 78;with_reducible refine (chVB hb R C1).mono ?_;clear hb;rintro e w1 ⟨rfl,hk,hb⟩;clear Aa Ab;replace a0:=zB hk a0;obtain ⟨Aa,Ab⟩:=ce2 a0;clear hk)
 obtain ⟨Ag,Ah⟩:=cy2 a0
 have Ae:=rrV C2 R hb
 have Af:=rrV C3 R hb
 refine wp_region_quiet_below (by first | assumption | kernel_rfl) (by kernel_rfl) ?_
 repeat (quiet_step (first | (with_reducible exact Ae.out _ _) | (with_reducible exact Af.out _ _)))
 refine wpQuiet_nil ?_
 intro w1 hw'
 obtain ⟨hk,hb⟩:=zQ hb hw'
 clear Aa Ab
 replace a0:=zB hk a0
 obtain ⟨Aa,Ab⟩:=ce2 a0
 clear Ae Af Ag Ah
 clear hk hw'
 go_wp2_with (go_at_call 71;with_reducible refine (chVB hb R C4).mono ?_;clear hb;rintro e w1 ⟨rfl,hk,hb⟩;clear Aa Ab;replace a0:=zB hk a0;obtain ⟨Aa,Ab⟩:=ce2 a0;clear hk)
 first | go_ret | go_ret2 | go_ret3
 exact ⟨rfl,hb⟩
theorem ckl_1pz  (k:Int) (a:Rat) (na:RN a 24 24) (hm:k.tmod 2=1) (hk:0≤k∧k≤7) (hl:0 < a.num.sign) (hh:(a - (1:Rat)).num.sign=0) (w:World) (R:EnvV w) :
   Calls Tryz.prog 30 #[.agg #[.int .i64 k,.string (ratB a)]] w (Ret w (.int .i64 0)):=by
 have Ac:=na.rl (K:=100000)
 have c1:∀ w,EnvV w→Calls Tryz.prog 21 #[.slice (some ⟨w.heap.size,0,none⟩) 1 1] (w.alloc (Obj.cells #[Value.string (ratB a)] 22)) (Ret w (.bool true)):=fun w R=>right1 (ratB a) true ⟨fun _=>isRat_of (na.rl (K:=200)),fun _=>rfl⟩ (Nat.le_trans (size_of_RL (na.rl (K:=200))) (by decide)) w R
 have c2:=fun (w:World) (R:EnvV w)=>rsign_any a Ac w R.toEnvR
 have c3:CV 31 #[.string (ratB a),.string ⟨#[49]⟩] (.int .i64 (a - (1:Rat)).num.sign):=fun w R=>(by have h:=rcompare_any a (1:Rat) na.rm (RN.rl (K:=10000) rn_1) w R.toEnvR;simp only [rb_1] at h;exact h)
 have gm:k.tmod 2=1:=hm
 have gk:0≤k∧k≤7:=hk
 have gl:0 < a.num.sign:=hl
 have gh:(a - (1:Rat)).num.sign=0:=hh
 have el:(a.num.sign == 0)=false:=beq_eq_false_iff_ne.2 (by omega)
 obtain ⟨Ai,Ad⟩:∃ vq,ratB a=vq:=⟨_,rfl⟩
 try simp only [Ad] at c1 c2 c3 gm gk gl gh el ⊢
 obtain ⟨lo,elo⟩:∃ vq,a.num.sign=vq:=⟨_,rfl⟩
 try simp only [elo] at c1 c2 c3 gm gk gl gh el ⊢
 obtain ⟨hi,ehi⟩:∃ vq,(a - (1:Rat)).num.sign=vq:=⟨_,rfl⟩
 try simp only [ehi] at c1 c2 c3 gm gk gl gh el ⊢
 have C1:=Lib.hid c1
 have C2:=Lib.hid c2
 have C3:=Lib.hid c3
 clear c1 c2 c3 Ad elo ehi Ac na hm hk hl hh
 have hb:=Below.refl w.heap.size w
 go_enter Tryz.func30,Tryz.ntmps30
 go_upto_region 1 with fail
 refine wp_alloc1 (fun w1 a0 hk=>?_)
 replace hb:=hb.trans (hk.mono hb.size)
 clear hk
 obtain ⟨Aa,Ab⟩:=ce2 a0
 go_upto_region 5 with (go_at_call 21;with_reducible refine (zL hb (C1.out _ (R.below hb))).mono ?_;clear hb;rintro e w1 ⟨rfl,hk,hb⟩;clear Aa Ab;replace a0:=zB hk a0;obtain ⟨Aa,Ab⟩:=ce2 a0;clear hk)
 obtain ⟨Ag,Ah⟩:=cy2 a0
 have Ae:=rrV C2 R hb
 have Af:=rrV C3 R hb
 refine wp_region_quiet_below (by first | assumption | kernel_rfl) (by kernel_rfl) ?_
 repeat (quiet_step (first | (with_reducible exact Ae.out _ _) | (with_reducible exact Af.out _ _)))
 refine wpQuiet_nil ?_
 intro w1 hw'
 obtain ⟨hk,hb⟩:=zQ hb hw'
 clear Aa Ab
 replace a0:=zB hk a0
 obtain ⟨Aa,Ab⟩:=ce2 a0
 clear Ae Af Ag Ah
 clear hk hw'
 go_wp2
 first | go_ret | go_ret2 | go_ret3
 exact ⟨rfl,hb⟩
theorem ckp_1pp  (k:Int) (a:Rat) (na:RN a 24 24) (hm:k.tmod 2=1) (hk:0≤k∧k≤7) (hl:0 < a.num.sign) (hh:0 < (a - (1:Rat)).num.sign) (w:World) (R:EnvV w) :
   Calls Tryz.prog 69 #[.agg #[.int .i64 k,.string (ratB a)]] w (Ret w (.int .i64 3)):=by
 have Ac:=na.rl (K:=100000)
 have c1:=fun (w:World) (R:EnvV w)=>rcheck_any (ratB a) 0 (Or.inl ⟨isRat_of (na.rl (K:=200)),rfl⟩) (Nat.le_trans (size_of_RL (na.rl (K:=200))) (by decide)) w R.toEnvR
 have c2:=fun (w:World) (R:EnvV w)=>rsign_any a Ac w R.toEnvR
 have c3:CV 31 #[.string (ratB a),.string ⟨#[49]⟩] (.int .i64 (a - (1:Rat)).num.sign):=fun w R=>(by have h:=rcompare_any a (1:Rat) na.rm (RN.rl (K:=10000) rn_1) w R.toEnvR;simp only [rb_1] at h;exact h)
 have c4:=isBack_1 k (ratB a) hm hk
 have gm:k.tmod 2=1:=hm
 have gk:0≤k∧k≤7:=hk
 have gl:0 < a.num.sign:=hl
 have gh:0 < (a - (1:Rat)).num.sign:=hh
 have el:(a.num.sign == 0)=false:=beq_eq_false_iff_ne.2 (by omega)
 have eh:((a - (1:Rat)).num.sign == 0)=false:=beq_eq_false_iff_ne.2 (by omega)
 obtain ⟨Ai,Ad⟩:∃ vq,ratB a=vq:=⟨_,rfl⟩
 try simp only [Ad] at c1 c2 c3 c4 gm gk gl gh el eh ⊢
 obtain ⟨lo,elo⟩:∃ vq,a.num.sign=vq:=⟨_,rfl⟩
 try simp only [elo] at c1 c2 c3 c4 gm gk gl gh el eh ⊢
 obtain ⟨hi,ehi⟩:∃ vq,(a - (1:Rat)).num.sign=vq:=⟨_,rfl⟩
 try simp only [ehi] at c1 c2 c3 c4 gm gk gl gh el eh ⊢
 have C1:=Lib.hid c1
 have C2:=Lib.hid c2
 have C3:=Lib.hid c3
 have C4:=Lib.hid c4
 clear c1 c2 c3 c4 Ad elo ehi Ac na hm hk hl hh
 have hb:=Below.refl w.heap.size w
 go_enter Tryz.func69,Tryz.ntmps69
 go_upto_region 1 with fail
 refine wp_alloc1 (fun w1 a0 hk=>?_)
 replace hb:=hb.trans (hk.mono hb.size)
 clear hk
 obtain ⟨Aa,Ab⟩:=ce2 a0
 go_upto_region 6 with (go_at_call 78;with_reducible refine (chVB hb R C1).mono ?_;clear hb;rintro e w1 ⟨rfl,hk,hb⟩;clear Aa Ab;replace a0:=zB hk a0;obtain ⟨Aa,Ab⟩:=ce2 a0;clear hk)
 obtain ⟨Ag,Ah⟩:=cy2 a0
 have Ae:=rrV C2 R hb
 have Af:=rrV C3 R hb
 refine wp_region_quiet_below (by first | assumption | kernel_rfl) (by kernel_rfl) ?_
 repeat (quiet_step (first | (with_reducible exact Ae.out _ _) | (with_reducible exact Af.out _ _)))
 refine wpQuiet_nil ?_
 intro w1 hw'
 obtain ⟨hk,hb⟩:=zQ hb hw'
 clear Aa Ab
 replace a0:=zB hk a0
 obtain ⟨Aa,Ab⟩:=ce2 a0
 clear Ae Af Ag Ah
 clear hk hw'
 go_wp2_with (go_at_call 71;with_reducible refine (chVB hb R C4).mono ?_;clear hb;rintro e w1 ⟨rfl,hk,hb⟩;clear Aa Ab;replace a0:=zB hk a0;obtain ⟨Aa,Ab⟩:=ce2 a0;clear hk)
 first | go_ret | go_ret2 | go_ret3
 exact ⟨rfl,hb⟩
theorem ckl_1pp  (k:Int) (a:Rat) (na:RN a 24 24) (hm:k.tmod 2=1) (hk:0≤k∧k≤7) (hl:0 < a.num.sign) (hh:0 < (a - (1:Rat)).num.sign) (w:World) (R:EnvV w) :
   Calls Tryz.prog 30 #[.agg #[.int .i64 k,.string (ratB a)]] w (Ret w (.int .i64 3)):=by
 have Ac:=na.rl (K:=100000)
 have c1:∀ w,EnvV w→Calls Tryz.prog 21 #[.slice (some ⟨w.heap.size,0,none⟩) 1 1] (w.alloc (Obj.cells #[Value.string (ratB a)] 22)) (Ret w (.bool true)):=fun w R=>right1 (ratB a) true ⟨fun _=>isRat_of (na.rl (K:=200)),fun _=>rfl⟩ (Nat.le_trans (size_of_RL (na.rl (K:=200))) (by decide)) w R
 have c2:=fun (w:World) (R:EnvV w)=>rsign_any a Ac w R.toEnvR
 have c3:CV 31 #[.string (ratB a),.string ⟨#[49]⟩] (.int .i64 (a - (1:Rat)).num.sign):=fun w R=>(by have h:=rcompare_any a (1:Rat) na.rm (RN.rl (K:=10000) rn_1) w R.toEnvR;simp only [rb_1] at h;exact h)
 have gm:k.tmod 2=1:=hm
 have gk:0≤k∧k≤7:=hk
 have gl:0 < a.num.sign:=hl
 have gh:0 < (a - (1:Rat)).num.sign:=hh
 have el:(a.num.sign == 0)=false:=beq_eq_false_iff_ne.2 (by omega)
 have eh:((a - (1:Rat)).num.sign == 0)=false:=beq_eq_false_iff_ne.2 (by omega)
 obtain ⟨Ai,Ad⟩:∃ vq,ratB a=vq:=⟨_,rfl⟩
 try simp only [Ad] at c1 c2 c3 gm gk gl gh el eh ⊢
 obtain ⟨lo,elo⟩:∃ vq,a.num.sign=vq:=⟨_,rfl⟩
 try simp only [elo] at c1 c2 c3 gm gk gl gh el eh ⊢
 obtain ⟨hi,ehi⟩:∃ vq,(a - (1:Rat)).num.sign=vq:=⟨_,rfl⟩
 try simp only [ehi] at c1 c2 c3 gm gk gl gh el eh ⊢
 have C1:=Lib.hid c1
 have C2:=Lib.hid c2
 have C3:=Lib.hid c3
 clear c1 c2 c3 Ad elo ehi Ac na hm hk hl hh
 have hb:=Below.refl w.heap.size w
 go_enter Tryz.func30,Tryz.ntmps30
 go_upto_region 1 with fail
 refine wp_alloc1 (fun w1 a0 hk=>?_)
 replace hb:=hb.trans (hk.mono hb.size)
 clear hk
 obtain ⟨Aa,Ab⟩:=ce2 a0
 go_upto_region 5 with (go_at_call 21;with_reducible refine (zL hb (C1.out _ (R.below hb))).mono ?_;clear hb;rintro e w1 ⟨rfl,hk,hb⟩;clear Aa Ab;replace a0:=zB hk a0;obtain ⟨Aa,Ab⟩:=ce2 a0;clear hk)
 obtain ⟨Ag,Ah⟩:=cy2 a0
 have Ae:=rrV C2 R hb
 have Af:=rrV C3 R hb
 refine wp_region_quiet_below (by first | assumption | kernel_rfl) (by kernel_rfl) ?_
 repeat (quiet_step (first | (with_reducible exact Ae.out _ _) | (with_reducible exact Af.out _ _)))
 refine wpQuiet_nil ?_
 intro w1 hw'
 obtain ⟨hk,hb⟩:=zQ hb hw'
 clear Aa Ab
 replace a0:=zB hk a0
 obtain ⟨Aa,Ab⟩:=ce2 a0
 clear Ae Af Ag Ah
 clear hk hw'
 go_wp2
 first | go_ret | go_ret2 | go_ret3
 exact ⟨rfl,hb⟩
theorem sgn3 (z:Int):z < 0∨z=0∨0 < z:=by omega
theorem tmod2 (k:Int) (h:0≤k):k.tmod 2=0∨k.tmod 2=1:=by rw [Int.tmod_eq_emod_of_nonneg h];omega
def CKS (k:Int) (t:ByteArray) (v:Int):Prop:=
 (CV 69 #[.agg #[.int .i64 k,.string t]] (.int .i64 v)) ∧
 (CV 30 #[.agg #[.int .i64 k,.string t]] (.int .i64 v))
theorem cks (k:Int) (t:ByteArray) (ht:t.size≤24):(∃ v,v≠0∧CKS k t v)∨(CKS k t 0∧(0≤k∧k≤7)∧∃ a:Rat,t=ratB a∧RN a 24 24):=by
 by_cases h0:k < 0
 · exact Or.inl ⟨3,by decide,fun w R=>ckp_neg k t h0 w R,fun w R=>ckl_neg k t h0 w R⟩
 by_cases h1:7 < k
 · exact Or.inl ⟨3,by decide,fun w R=>ckp_big k t h1 w R,fun w R=>ckl_big k t h1 w R⟩
 have hk:0≤k∧k≤7:=by omega
 have zt:t.size≤100000:=by omega
 by_cases hr:IsRat t.data.toList
 case neg=>exact Or.inl ⟨2,by decide,fun w R=>ckp_bad k t hk hr zt w R,fun w R=>ckl_bad k t hk hr zt w R⟩
 obtain ⟨a,rfl,_⟩:=rat_of hr
 have na:RN a 24 24:=RN_of (RL_of_size ht)
 rcases tmod2 k hk.1 with hm | hm
 · rcases sgn3 a.num.sign with hl | hl | hl
   · rcases sgn3 (a - (1:Rat)).num.sign with hh | hh | hh
     · exact Or.inl ⟨3,by decide,fun w R=>ckp_0nn k a na hm hk hl hh w R,fun w R=>ckl_0nn k a na hm hk hl hh w R⟩
     · exact Or.inl ⟨3,by decide,fun w R=>ckp_0nz k a na hm hk hl hh w R,fun w R=>ckl_0nz k a na hm hk hl hh w R⟩
     · exact Or.inl ⟨3,by decide,fun w R=>ckp_0np k a na hm hk hl hh w R,fun w R=>ckl_0np k a na hm hk hl hh w R⟩
   · rcases sgn3 (a - (1:Rat)).num.sign with hh | hh | hh
     · exact Or.inr ⟨⟨fun w R=>ckp_0zn k a na hm hk hl hh w R,fun w R=>ckl_0zn k a na hm hk hl hh w R⟩,hk,a,rfl,na⟩
     · exact Or.inl ⟨3,by decide,fun w R=>ckp_0zz k a na hm hk hl hh w R,fun w R=>ckl_0zz k a na hm hk hl hh w R⟩
     · exact Or.inl ⟨3,by decide,fun w R=>ckp_0zp k a na hm hk hl hh w R,fun w R=>ckl_0zp k a na hm hk hl hh w R⟩
   · rcases sgn3 (a - (1:Rat)).num.sign with hh | hh | hh
     · exact Or.inr ⟨⟨fun w R=>ckp_0pn k a na hm hk hl hh w R,fun w R=>ckl_0pn k a na hm hk hl hh w R⟩,hk,a,rfl,na⟩
     · exact Or.inl ⟨3,by decide,fun w R=>ckp_0pz k a na hm hk hl hh w R,fun w R=>ckl_0pz k a na hm hk hl hh w R⟩
     · exact Or.inl ⟨3,by decide,fun w R=>ckp_0pp k a na hm hk hl hh w R,fun w R=>ckl_0pp k a na hm hk hl hh w R⟩
 · rcases sgn3 a.num.sign with hl | hl | hl
   · rcases sgn3 (a - (1:Rat)).num.sign with hh | hh | hh
     · exact Or.inl ⟨3,by decide,fun w R=>ckp_1nn k a na hm hk hl hh w R,fun w R=>ckl_1nn k a na hm hk hl hh w R⟩
     · exact Or.inl ⟨3,by decide,fun w R=>ckp_1nz k a na hm hk hl hh w R,fun w R=>ckl_1nz k a na hm hk hl hh w R⟩
     · exact Or.inl ⟨3,by decide,fun w R=>ckp_1np k a na hm hk hl hh w R,fun w R=>ckl_1np k a na hm hk hl hh w R⟩
   · rcases sgn3 (a - (1:Rat)).num.sign with hh | hh | hh
     · exact Or.inl ⟨3,by decide,fun w R=>ckp_1zn k a na hm hk hl hh w R,fun w R=>ckl_1zn k a na hm hk hl hh w R⟩
     · exact Or.inl ⟨3,by decide,fun w R=>ckp_1zz k a na hm hk hl hh w R,fun w R=>ckl_1zz k a na hm hk hl hh w R⟩
     · exact Or.inl ⟨3,by decide,fun w R=>ckp_1zp k a na hm hk hl hh w R,fun w R=>ckl_1zp k a na hm hk hl hh w R⟩
   · rcases sgn3 (a - (1:Rat)).num.sign with hh | hh | hh
     · exact Or.inr ⟨⟨fun w R=>ckp_1pn k a na hm hk hl hh w R,fun w R=>ckl_1pn k a na hm hk hl hh w R⟩,hk,a,rfl,na⟩
     · exact Or.inr ⟨⟨fun w R=>ckp_1pz k a na hm hk hl hh w R,fun w R=>ckl_1pz k a na hm hk hl hh w R⟩,hk,a,rfl,na⟩
     · exact Or.inl ⟨3,by decide,fun w R=>ckp_1pp k a na hm hk hl hh w R,fun w R=>ckl_1pp k a na hm hk hl hh w R⟩
theorem before_err  (i j:Int) (ta tb:ByteArray) (ea eb v:Int) (ca:CV 69 #[.agg #[.int .i64 i,.string ta]] (.int .i64 ea)) (cb:CV 69 #[.agg #[.int .i64 j,.string tb]] (.int .i64 eb)) (hv:firstNZ [ea,eb]=v) (q0:v≠0) (w:World) (R:EnvV w) :
   Calls Tryz.prog 29 #[.agg #[.int .i64 i,.string ta],.agg #[.int .i64 j,.string tb]] w (Ret w (.tuple #[.int .i64 0,.int .i64 v])):=by
 have c1:=ca
 have c2:=cb
 have c3:=fun (w:World) (R:EnvV w)=>orErr2 ea eb v hv w R.toEnvR
 have eq0:(v == 0)=false:=beq_eq_false_iff_ne.2 q0
 have pq0:¬ v=0:=q0
 have C1:=Lib.hid c1
 have C2:=Lib.hid c2
 have C3:=Lib.hid c3
 clear c1 c2 c3 q0 ca cb hv
 have hb:=Below.refl w.heap.size w
 go_enter Tryz.func29,Tryz.ntmps29
 go_upto_region 1 with fail
 refine wp_alloc2 (fun w1 a0 a1 hk=>?_)
 replace hb:=hb.trans (hk.mono hb.size)
 clear hk
 obtain ⟨Aa,Ab⟩:=ce2 a0
 obtain ⟨Ac,Ad⟩:=ce2 a1
 go_upto_region 1 with fail
 obtain ⟨Ag,Ah⟩:=cy2 a0
 obtain ⟨Ai,Aj⟩:=cy2 a1
 have Ae:=rrV C1 R hb
 have Af:=rrV C2 R hb
 refine wp_region_tail_below 4 (by first | assumption | kernel_rfl) (by kernel_rfl) ?_
 simp only [List.take_succ_cons,List.take_zero,List.drop_succ_cons,List.drop_zero]
 repeat (quiet_step (first | (with_reducible exact Ae.out _ _) | (with_reducible exact Af.out _ _)))
 refine wpQuiet_nil ?_
 intro w1 hw'
 obtain ⟨hk,hb⟩:=zQ hb hw'
 clear Aa Ab Ac Ad
 replace a0:=zB hk a0
 replace a1:=zB hk a1
 obtain ⟨Aa,Ab⟩:=ce2 a0
 obtain ⟨Ac,Ad⟩:=ce2 a1
 clear Ae Af Ag Ah Ai Aj
 clear hk hw'
 go_wp2_with (go_at_call 68;with_reducible refine (zL hb (C3.out _ (R.below hb))).mono ?_;clear hb;rintro e w1 ⟨rfl,hk,hb⟩;clear Aa Ab Ac Ad;replace a0:=zB hk a0;replace a1:=zB hk a1;obtain ⟨Aa,Ab⟩:=ce2 a0;obtain ⟨Ac,Ad⟩:=ce2 a1;clear hk)
 first | go_ret | go_ret2 | go_ret3
 exact ⟨rfl,hb⟩
theorem before_ne  (i j c:Int) (ta tb:ByteArray) (ca:CV 69 #[.agg #[.int .i64 i,.string ta]] (.int .i64 0)) (cb:CV 69 #[.agg #[.int .i64 j,.string tb]] (.int .i64 0)) (hn:i≠j) (hc:Lib.compareInt i j=c) (w:World) (R:EnvV w) :
   Calls Tryz.prog 29 #[.agg #[.int .i64 i,.string ta],.agg #[.int .i64 j,.string tb]] w (Ret w (.tuple #[.int .i64 c,.int .i64 0])):=by
 have c1:=ca
 have c2:=cb
 have c3:=fun (w:World) (R:EnvV w)=>orErr2 0 0 0 (by decide) w R.toEnvR
 have c4:CV 70 #[.int .i64 i,.int .i64 j] (.int .i64 c):=fun w R=>((Tryz.cmp_Compare_int i j w).mono (fun e w' h=>⟨h.1.trans (by rw [hc]),h.2 ▸ Below.refl _ _⟩))
 have gn:(i == j)=false:=beq_eq_false_iff_ne.2 hn
 have gp:¬ i=j:=hn
 have C1:=Lib.hid c1
 have C2:=Lib.hid c2
 have C3:=Lib.hid c3
 have C4:=Lib.hid c4
 clear c1 c2 c3 c4 ca cb hn hc
 have hb:=Below.refl w.heap.size w
 go_enter Tryz.func29,Tryz.ntmps29
 go_upto_region 1 with fail
 refine wp_alloc2 (fun w1 a0 a1 hk=>?_)
 replace hb:=hb.trans (hk.mono hb.size)
 clear hk
 obtain ⟨Aa,Ab⟩:=ce2 a0
 obtain ⟨Ac,Ad⟩:=ce2 a1
 go_upto_region 1 with fail
 obtain ⟨Ag,Ah⟩:=cy2 a0
 obtain ⟨Ai,Aj⟩:=cy2 a1
 have Ae:=rrV C1 R hb
 have Af:=rrV C2 R hb
 refine wp_region_tail_below 4 (by first | assumption | kernel_rfl) (by kernel_rfl) ?_
 simp only [List.take_succ_cons,List.take_zero,List.drop_succ_cons,List.drop_zero]
 repeat (quiet_step (first | (with_reducible exact Ae.out _ _) | (with_reducible exact Af.out _ _)))
 refine wpQuiet_nil ?_
 intro w1 hw'
 obtain ⟨hk,hb⟩:=zQ hb hw'
 clear Aa Ab Ac Ad
 replace a0:=zB hk a0
 replace a1:=zB hk a1
 obtain ⟨Aa,Ab⟩:=ce2 a0
 obtain ⟨Ac,Ad⟩:=ce2 a1
 clear Ae Af Ag Ah Ai Aj
 clear hk hw'
 go_wp2_with ((first | (go_at_call 68;with_reducible refine (zL hb (C3.out _ (R.below hb))).mono ?_) | (go_at_call 70;with_reducible refine (chVB hb R C4).mono ?_));clear hb;rintro e w1 ⟨rfl,hk,hb⟩;clear Aa Ab Ac Ad;replace a0:=zB hk a0;replace a1:=zB hk a1;obtain ⟨Aa,Ab⟩:=ce2 a0;obtain ⟨Ac,Ad⟩:=ce2 a1;clear hk)
 first | go_ret | go_ret2 | go_ret3
 exact ⟨rfl,hb⟩
theorem before_0  (i:Int) (a b:Rat) (na:RN a 24 24) (nb:RN b 24 24) (ca:CV 69 #[.agg #[.int .i64 i,.string (ratB a)]] (.int .i64 0)) (cb:CV 69 #[.agg #[.int .i64 i,.string (ratB b)]] (.int .i64 0)) (hk:0≤i∧i≤7) (hm:i.tmod 2=0) (w:World) (R:EnvV w) :
   Calls Tryz.prog 29 #[.agg #[.int .i64 i,.string (ratB a)],.agg #[.int .i64 i,.string (ratB b)]] w (Ret w (.tuple #[.int .i64 (a - b).num.sign,.int .i64 0])):=by
 have c1:=ca
 have c2:=cb
 have c3:=fun (w:World) (R:EnvV w)=>orErr2 0 0 0 (by decide) w R.toEnvR
 have c4:=isBack_0 i (ratB a) hm hk
 have c5:=fun (w:World) (R:EnvV w)=>rcompare_any a b na.rm nb.rm w R.toEnvR
 obtain ⟨Am,Ae⟩:∃ vq,ratB a=vq:=⟨_,rfl⟩
 obtain ⟨An,Af⟩:∃ vq,ratB b=vq:=⟨_,rfl⟩
 try simp only [Ae,Af] at c1 c2 c3 c4 c5 ⊢
 obtain ⟨sg,esg⟩:∃ vq,(a - b).num.sign=vq:=⟨_,rfl⟩
 try simp only [esg] at c1 c2 c3 c4 c5 ⊢
 have C1:=Lib.hid c1
 have C2:=Lib.hid c2
 have C3:=Lib.hid c3
 have C4:=Lib.hid c4
 have C5:=Lib.hid c5
 clear c1 c2 c3 c4 c5 Ae Af esg na nb ca cb hk hm
 have hb:=Below.refl w.heap.size w
 go_enter Tryz.func29,Tryz.ntmps29
 go_upto_region 1 with fail
 refine wp_alloc2 (fun w1 a0 a1 hk=>?_)
 replace hb:=hb.trans (hk.mono hb.size)
 clear hk
 obtain ⟨Aa,Ab⟩:=ce2 a0
 obtain ⟨Ac,Ad⟩:=ce2 a1
 go_upto_region 1 with fail
 obtain ⟨Ai,Aj⟩:=cy2 a0
 obtain ⟨Ak,Al⟩:=cy2 a1
 have Ag:=rrV C1 R hb
 have Ah:=rrV C2 R hb
 refine wp_region_tail_below 4 (by first | assumption | kernel_rfl) (by kernel_rfl) ?_
 simp only [List.take_succ_cons,List.take_zero,List.drop_succ_cons,List.drop_zero]
 repeat (quiet_step (first | (with_reducible exact Ag.out _ _) | (with_reducible exact Ah.out _ _)))
 refine wpQuiet_nil ?_
 intro w1 hw'
 obtain ⟨hk,hb⟩:=zQ hb hw'
 clear Aa Ab Ac Ad
 replace a0:=zB hk a0
 replace a1:=zB hk a1
 obtain ⟨Aa,Ab⟩:=ce2 a0
 obtain ⟨Ac,Ad⟩:=ce2 a1
 clear Ag Ah Ai Aj Ak Al
 clear hk hw'
 go_wp2_with ((first | (go_at_call 68;with_reducible refine (zL hb (C3.out _ (R.below hb))).mono ?_) | (go_at_call 71;with_reducible refine (chVB hb R C4).mono ?_) | (go_at_call 31;with_reducible refine (chVB hb R C5).mono ?_));clear hb;rintro e w1 ⟨rfl,hk,hb⟩;clear Aa Ab Ac Ad;replace a0:=zB hk a0;replace a1:=zB hk a1;obtain ⟨Aa,Ab⟩:=ce2 a0;obtain ⟨Ac,Ad⟩:=ce2 a1;clear hk)
 first | go_ret | go_ret2 | go_ret3
 exact ⟨rfl,hb⟩
theorem wp_swap {P:Program} {c:Code} {Q:Exit→Act→World→Prop} {a:Act} {w w1:World} {A B:Nat} {T:TypeId} {u0 u1 v0 v1:Value}
   (hb:Below w.heap.size w w1) (hA:w.heap.size≤A) (hB:w.heap.size≤B) (hn:A≠B) (h:w1.heap[A]? = some (Obj.cells #[u0,u1] T)) (g:w1.heap[B]? = some (Obj.cells #[v0,v1] T))
   (k:∀ w2:World,Below w.heap.size w w2→w2.heap[A]? = some (Obj.cells #[v0,v1] T)→w2.heap[B]? = some (Obj.cells #[u0,u1] T)→Code.wp P c Q a w2) :
   Code.wp P c Q a ((((w1.setCell ⟨A,0,none⟩ v0).setCell ⟨A,1,none⟩ v1).setCell ⟨B,0,none⟩ u0).setCell ⟨B,1,none⟩ u1):=by
 refine k _ (Below.setCell (Below.setCell (Below.setCell (Below.setCell hb hA _) hA _) hB _) hB _) ?_ ?_
 · rw [Below.heap_setCell _ _ _ _ hn,Below.heap_setCell _ _ _ _ hn]
   exact setCell_here (setCell_here h v0) v1
 · have g2:((w1.setCell ⟨A,0,none⟩ v0).setCell ⟨A,1,none⟩ v1).heap[B]? = some (Obj.cells #[v0,v1] T):=by
     rw [Below.heap_setCell _ _ _ _ (Ne.symm hn),Below.heap_setCell _ _ _ _ (Ne.symm hn)];exact g
   exact setCell_here (setCell_here g2 u0) u1
theorem before_1  (i:Int) (a b:Rat) (na:RN a 24 24) (nb:RN b 24 24) (ca:CV 69 #[.agg #[.int .i64 i,.string (ratB a)]] (.int .i64 0)) (cb:CV 69 #[.agg #[.int .i64 i,.string (ratB b)]] (.int .i64 0)) (hk:0≤i∧i≤7) (hm:i.tmod 2=1) (w:World) (R:EnvV w) :
   Calls Tryz.prog 29 #[.agg #[.int .i64 i,.string (ratB a)],.agg #[.int .i64 i,.string (ratB b)]] w (Ret w (.tuple #[.int .i64 (b - a).num.sign,.int .i64 0])):=by
 have c1:=ca
 have c2:=cb
 have c3:=fun (w:World) (R:EnvV w)=>orErr2 0 0 0 (by decide) w R.toEnvR
 have c4:=isBack_1 i (ratB a) hm hk
 have c5:=fun (w:World) (R:EnvV w)=>rcompare_any b a nb.rm na.rm w R.toEnvR
 obtain ⟨Aq,Ai⟩:∃ vq,ratB a=vq:=⟨_,rfl⟩
 obtain ⟨Ar,Aj⟩:∃ vq,ratB b=vq:=⟨_,rfl⟩
 try simp only [Ai,Aj] at c1 c2 c3 c4 c5 ⊢
 obtain ⟨sg,esg⟩:∃ vq,(b - a).num.sign=vq:=⟨_,rfl⟩
 try simp only [esg] at c1 c2 c3 c4 c5 ⊢
 have C1:=Lib.hid c1
 have C2:=Lib.hid c2
 have C3:=Lib.hid c3
 have C4:=Lib.hid c4
 have C5:=Lib.hid c5
 clear c1 c2 c3 c4 c5 Ai Aj esg na nb ca cb hk hm
 have hb:=Below.refl w.heap.size w
 go_enter Tryz.func29,Tryz.ntmps29
 go_upto_region 1 with fail
 refine wp_alloc2 (fun w1 a0 a1 hk=>?_)
 replace hb:=hb.trans (hk.mono hb.size)
 clear hk
 obtain ⟨Aa,Ab,Ac,Ad⟩:=cf2 a0
 obtain ⟨Ae,Af,Ag,Ah⟩:=cf2 a1
 go_upto_region 1 with fail
 obtain ⟨Am,An⟩:=cy2 a0
 obtain ⟨Ao,Ap⟩:=cy2 a1
 have Ak:=rrV C1 R hb
 have Al:=rrV C2 R hb
 refine wp_region_tail_below 4 (by first | assumption | kernel_rfl) (by kernel_rfl) ?_
 simp only [List.take_succ_cons,List.take_zero,List.drop_succ_cons,List.drop_zero]
 repeat (quiet_step (first | (with_reducible exact Ak.out _ _) | (with_reducible exact Al.out _ _)))
 refine wpQuiet_nil ?_
 intro w1 hw'
 obtain ⟨hk,hb⟩:=zQ hb hw'
 clear Aa Ac Ab Ad Ae Ag Af Ah
 replace a0:=zB hk a0
 replace a1:=zB hk a1
 obtain ⟨Aa,Ab,Ac,Ad⟩:=cf2 a0
 obtain ⟨Ae,Af,Ag,Ah⟩:=cf2 a1
 clear Ak Al Am An Ao Ap
 clear hk hw'
 go_upto_region 8 with ((first | (go_at_call 68;with_reducible refine (zL hb (C3.out _ (R.below hb))).mono ?_) | (go_at_call 71;with_reducible refine (chVB hb R C4).mono ?_) | (go_at_call 31;with_reducible refine (chVB hb R C5).mono ?_));clear hb;rintro e w1 ⟨rfl,hk,hb⟩;clear Aa Ac Ab Ad Ae Ag Af Ah;replace a0:=zB hk a0;replace a1:=zB hk a1;obtain ⟨Aa,Ab,Ac,Ad⟩:=cf2 a0;obtain ⟨Ae,Af,Ag,Ah⟩:=cf2 a1;clear hk)
 refine wp_swap hb (Nat.le_refl _) (Nat.le_succ _) (by omega) a0 a1 (fun w1 hb a0 a1=>?_)
 clear Aa Ac Ae Ag Ab Ad Af Ah
 obtain ⟨Aa,Ab,Ac,Ad⟩:=cf2 a0
 obtain ⟨Ae,Af,Ag,Ah⟩:=cf2 a1
 go_wp2_with ((first | (go_at_call 68;with_reducible refine (zL hb (C3.out _ (R.below hb))).mono ?_) | (go_at_call 71;with_reducible refine (chVB hb R C4).mono ?_) | (go_at_call 31;with_reducible refine (chVB hb R C5).mono ?_));clear hb;rintro e w1 ⟨rfl,hk,hb⟩;clear Aa Ac Ab Ad Ae Ag Af Ah;replace a0:=zB hk a0;replace a1:=zB hk a1;obtain ⟨Aa,Ab,Ac,Ad⟩:=cf2 a0;obtain ⟨Ae,Af,Ag,Ah⟩:=cf2 a1;clear hk)
 first | go_ret | go_ret2 | go_ret3
 exact ⟨rfl,hb⟩
end Go.Proofs.YtejfiegmdllfbaaGreatDoor.Kl
