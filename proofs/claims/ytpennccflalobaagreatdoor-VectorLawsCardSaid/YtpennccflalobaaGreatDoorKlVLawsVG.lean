import Derived.Test.YtpennccflalobaaGreatDoorKlVLawsVE
namespace Go.Proofs.YtpennccflalobaaGreatDoor.Kl
open Go Go.RowKit
set_option maxRecDepth 100000
set_option maxHeartbeats 8000000
theorem turn_any (a b c d x y:Rat) (r1:RL a 200) (r2:RL b 200) (r3:RL c 200) (r4:RL d 200) (r5:RL x 200) (r6:RL y 200) (r7:RL c 10000) (r8:RL a 10000) (r9:RL d 10000) (r10:RL b 10000) (r11:RL x 10000) (r12:RL y 10000) (r13:RL (c - a) 10000) (r14:RL (y - b) 10000) (r15:RL (d - b) 10000) (r16:RL (x - a) 10000) (r17:RL ((c - a)*(y - b)) 10000) (r18:RL ((d - b)*(x - a)) 10000) (r19:RL (((c - a)*(y - b)) - ((d - b)*(x - a))) 100000) (w:World) (R:EnvR w) :
   Calls Tryz.prog 45 #[.agg #[.string (ratB a),.string (ratB b)],.agg #[.string (ratB c),.string (ratB d)],.agg #[.string (ratB x),.string (ratB y)]] w (Ret w (.tuple #[.int .i64 (((c - a)*(y - b)) - ((d - b)*(x - a))).num.sign,.int .i64 0])):=by
 have c1:=checkPts3 a b c d x y r1 r2 r3 r4 r5 r6
 have c2:=area_any a b c d x y r7 r8 r9 r10 r11 r12 r13 r14 r15 r16 r17 r18
 have c3:=rsign_any (((c - a)*(y - b)) - ((d - b)*(x - a))) r19
 have C1:=Lib.hid c1
 have C2:=Lib.hid c2
 have C3:=Lib.hid c3
 clear c1 c2 c3 r1 r2 r3 r4 r5 r6 r7 r8 r9 r10 r11 r12 r13 r14 r15 r16 r17 r18 r19
 have hb:=Below.refl w.heap.size w
 go_enter Tryz.func45,Tryz.ntmps45
 go_upto_region 1 with fail
 refine wp_alloc3 (fun w1 a0 a1 a2 hk=>?_)
 replace hb:=hb.trans (hk.mono hb.size)
 clear hk
 obtain ⟨Aa,Ab⟩:=ce2 a0
 obtain ⟨Ac,Ad⟩:=ce2 a1
 obtain ⟨Ae,Af⟩:=ce2 a2
 go_wp2_with ((first | (go_at_call 95;with_reducible refine (zL hb (C1.out _ (R.below hb))).mono ?_) | (go_at_call 97;with_reducible refine (chRB hb R C2).mono ?_) | (go_at_call 96;with_reducible refine (chRB hb R C3).mono ?_));clear hb;rintro e w1 ⟨rfl,hk,hb⟩;clear Aa Ab Ac Ad Ae Af;replace a0:=zB hk a0;replace a1:=zB hk a1;replace a2:=zB hk a2;obtain ⟨Aa,Ab⟩:=ce2 a0;obtain ⟨Ac,Ad⟩:=ce2 a1;obtain ⟨Ae,Af⟩:=ce2 a2;clear hk)
 first | go_ret | go_ret2 | go_ret3
 exact ⟨rfl,hb⟩
end Go.Proofs.YtpennccflalobaaGreatDoor.Kl
