import Derived.Test.YtpiiclmkbplkhaaGreatDoorKlLAnglesCLR
namespace Go.Proofs.YtpiiclmkbplkhaaGreatDoor.Kl
open Go Go.RowKit
set_option maxRecDepth 100000
set_option maxHeartbeats 8000000
theorem lCmpAngles_w  (s0 s1 s2 t0 t1 t2 u0 u1 u2 v0 v1 v2:ByteArray) (p q:ByteArray) (N:Int) (cs:CV 15 #[.agg #[.string s0,.string s1,.string s2]] (.int .i64 0)) (ct:CV 15 #[.agg #[.string t0,.string t1,.string t2]] (.int .i64 0)) (cu:CV 15 #[.agg #[.string u0,.string u1,.string u2]] (.int .i64 0)) (cv:CV 15 #[.agg #[.string v0,.string v1,.string v2]] (.int .i64 0)) (k1:CV 50 #[.agg #[.string u0,.string u1,.string u2],.agg #[.string v0,.string v1,.string v2]] (.string q)) (k2:CV 50 #[.agg #[.string s0,.string s1,.string s2],.agg #[.string t0,.string t1,.string t2]] (.string p)) (kc:CV 36 #[.string q,.string p] (.int .i64 N)) (w:World) (R:EnvV w) :
   Calls Tryz.prog 20 #[.agg #[.string s0,.string s1,.string s2,.string t0,.string t1,.string t2],.agg #[.string u0,.string u1,.string u2,.string v0,.string v1,.string v2]] w (Ret w (.tuple #[.int .i64 N,.int .i64 0])):=by
 have c1:=cs
 have c2:=ct
 have c3:=cu
 have c4:=cv
 have c5:=fun (w:World) (R:EnvV w)=>orErr4 0 0 0 0 0 (by decide) w R.toEnvR
 have c6:=k1
 have c7:=k2
 have c8:=kc
 have C1:=Lib.hid c1
 have C2:=Lib.hid c2
 have C3:=Lib.hid c3
 have C4:=Lib.hid c4
 have C5:=Lib.hid c5
 have C6:=Lib.hid c6
 have C7:=Lib.hid c7
 have C8:=Lib.hid c8
 clear c1 c2 c3 c4 c5 c6 c7 c8 cs ct cu cv k1 k2 kc
 have hb:=Below.refl w.heap.size w
 go_enter Tryz.func20,Tryz.ntmps20
 go_upto_region 1 with fail
 refine wp_alloc2 (fun w1 a0 a1 hk=>?_)
 replace hb:=hb.trans (hk.mono hb.size)
 clear hk
 obtain ⟨Aa,Ab,Ac,Ad,Ae,Af⟩:=ce6 a0
 obtain ⟨Ag,Ah,Ai,Aj,Ak,Al⟩:=ce6 a1
 go_upto_region 1 with fail
 obtain ⟨Am,An,Ao,Ap,Aq,Ar⟩:=cy6 a0
 obtain ⟨As,At,Au,Av,Aw,Ax⟩:=cy6 a1
 have Ay:=rrV C1 R hb
 have Az:=rrV C2 R hb
 have A0:=rrV C3 R hb
 have A1:=rrV C4 R hb
 refine wp_region_tail_below 12 (by first | assumption | kernel_rfl) (by kernel_rfl) ?_
 simp only [List.take_succ_cons,List.take_zero,List.drop_succ_cons,List.drop_zero]
 repeat (quiet_step (first | (with_reducible exact Ay.out _ _) | (with_reducible exact Az.out _ _) | (with_reducible exact A0.out _ _) | (with_reducible exact A1.out _ _)))
 refine wpQuiet_nil ?_
 intro w1 hw'
 obtain ⟨hk,hb⟩:=zQ hb hw'
 clear Aa Ab Ac Ad Ae Af Ag Ah Ai Aj Ak Al
 replace a0:=zB hk a0
 replace a1:=zB hk a1
 obtain ⟨Aa,Ab,Ac,Ad,Ae,Af⟩:=ce6 a0
 obtain ⟨Ag,Ah,Ai,Aj,Ak,Al⟩:=ce6 a1
 clear Ay Az A0 A1 Am An Ao Ap Aq Ar As At Au Av Aw Ax
 clear hk hw'
 go_upto_region 4 with (go_at_call 43;with_reducible refine (zL hb (C5.out _ (R.below hb))).mono ?_;clear hb;rintro e w1 ⟨rfl,hk,hb⟩;clear Aa Ab Ac Ad Ae Af Ag Ah Ai Aj Ak Al;replace a0:=zB hk a0;replace a1:=zB hk a1;obtain ⟨Aa,Ab,Ac,Ad,Ae,Af⟩:=ce6 a0;obtain ⟨Ag,Ah,Ai,Aj,Ak,Al⟩:=ce6 a1;clear hk)
 obtain ⟨Am,An,Ao,Ap,Aq,Ar⟩:=cy6 a0
 obtain ⟨As,At,Au,Av,Aw,Ax⟩:=cy6 a1
 have A2:=rrV C6 R hb
 have A3:=rrV C7 R hb
 have A4:=rrV C8 R hb
 refine wp_region_quiet_below (by first | assumption | kernel_rfl) (by kernel_rfl) ?_
 repeat (quiet_step (first | (with_reducible exact A2.out _ _) | (with_reducible exact A3.out _ _) | (with_reducible exact A4.out _ _)))
 refine wpQuiet_nil ?_
 intro w1 hw'
 obtain ⟨hk,hb⟩:=zQ hb hw'
 clear Aa Ab Ac Ad Ae Af Ag Ah Ai Aj Ak Al
 replace a0:=zB hk a0
 replace a1:=zB hk a1
 obtain ⟨Aa,Ab,Ac,Ad,Ae,Af⟩:=ce6 a0
 obtain ⟨Ag,Ah,Ai,Aj,Ak,Al⟩:=ce6 a1
 clear A2 A3 A4 Am An Ao Ap Aq Ar As At Au Av Aw Ax
 clear hk hw'
 go_wp2
 first | go_ret | go_ret2 | go_ret3
 exact ⟨rfl,hb⟩
end Go.Proofs.YtpiiclmkbplkhaaGreatDoor.Kl
