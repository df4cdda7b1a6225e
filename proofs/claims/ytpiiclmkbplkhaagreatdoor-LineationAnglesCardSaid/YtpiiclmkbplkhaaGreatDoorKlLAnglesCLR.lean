import Derived.Test.YtpiiclmkbplkhaaGreatDoorKlLAnglesCLQ
import Derived.Test.YtpiiclmkbplkhaaGreatDoorKlBLRZ
namespace Go.Proofs.YtpiiclmkbplkhaaGreatDoor.Kl
open Go Go.RowKit
set_option maxRecDepth 100000
set_option maxHeartbeats 8000000
theorem lAngle (a b c x y z:Rat) (na:RN a 6 3) (nb:RN b 6 3) (nc:RN c 6 3) (nx:RN x 6 3) (ny:RN y 6 3) (nz:RN z 6 3) (hu:a≠0∨b≠0∨c≠0) (hv:x≠0∨y≠0∨z≠0) (w:World) (R:EnvV w) :
   Calls Tryz.prog 19 #[.agg #[.string (ratB a),.string (ratB b),.string (ratB c)],.agg #[.string (ratB x),.string (ratB y),.string (ratB z)]] w (Ret w (.tuple #[.string (ratB (((((a*x)+(b*y))+(c*z))*(((a*x)+(b*y))+(c*z))) / ((((a*a)+(b*b))+(c*c))*(((x*x)+(y*y))+(z*z))))),.int .i64 0])):=by
 have Ah:=RN_mul na nx
 have Au:=Ah.rl (K:=80)
 have Ai:=RN_mul nb ny
 have Av:=Ai.rl (K:=80)
 have Aj:=RN_mul nc nz
 have Aw:=Aj.rl (K:=80)
 have Ax:=RN_add (N:=18) Ah Ai
 have Aa:=RN_add (N:=25) Ax Aj
 have Ak:=RN_mul na na
 have Ay:=Ak.rl (K:=80)
 have Al:=RN_mul nb nb
 have Az:=Al.rl (K:=80)
 have Am:=RN_mul nc nc
 have A0:=Am.rl (K:=80)
 have An:=RN_mul nx nx
 have A1:=An.rl (K:=80)
 have Ao:=RN_mul ny ny
 have A2:=Ao.rl (K:=80)
 have Ap:=RN_mul nz nz
 have A3:=Ap.rl (K:=80)
 have A4:=RN_add (N:=18) Ak Al
 have Aq:=RN_add (N:=25) A4 Am
 have A5:=RN_add (N:=18) An Ao
 have Ar:=RN_add (N:=25) A5 Ap
 have As:=RN_mul Aq Ar
 have At:=RN_mul Aa Aa
 have A6:=RN_div At As (mul_ne (sqsum_ne hu) (sqsum_ne hv))
 have c1:=lcheck_ok a b c hu na.r2 nb.r2 nc.r2
 have c2:=lcheck_ok x y z hv nx.r2 ny.r2 nz.r2
 have c3:=fun (w:World) (R:EnvV w)=>orErr2 0 0 0 (by decide) w R.toEnvR
 have c4:=langle a b c x y z na.rm nx.rm nb.rm ny.rm nc.rm nz.rm Au Av Aw Aa.rm Ay Az A0 A1 A2 A3 Aq.rm Ar.rm (mul_ne (sqsum_ne hu) (sqsum_ne hv)) At.rm As.rm A6.r2
 obtain ⟨Bm,A7⟩:∃ vq,ratB (((((a*x)+(b*y))+(c*z))*(((a*x)+(b*y))+(c*z))) / ((((a*a)+(b*b))+(c*c))*(((x*x)+(y*y))+(z*z))))=vq:=⟨_,rfl⟩
 obtain ⟨Bn,A8⟩:∃ vq,ratB a=vq:=⟨_,rfl⟩
 obtain ⟨Bo,A9⟩:∃ vq,ratB b=vq:=⟨_,rfl⟩
 obtain ⟨Bp,Ba⟩:∃ vq,ratB c=vq:=⟨_,rfl⟩
 obtain ⟨Bq,Bb⟩:∃ vq,ratB x=vq:=⟨_,rfl⟩
 obtain ⟨Br,Bc⟩:∃ vq,ratB y=vq:=⟨_,rfl⟩
 obtain ⟨Bs,Bd⟩:∃ vq,ratB z=vq:=⟨_,rfl⟩
 try simp only [A7,A8,A9,Ba,Bb,Bc,Bd] at c1 c2 c3 c4 ⊢
 have C1:=Lib.hid c1
 have C2:=Lib.hid c2
 have C3:=Lib.hid c3
 have C4:=Lib.hid c4
 clear c1 c2 c3 c4 A7 A8 A9 Ba Bb Bc Bd Ah Au Ai Av Aj Aw Ax Aa Ak Ay Al Az Am A0 An A1 Ao A2 Ap A3 A4 Aq A5 Ar As At A6 na nb nc nx ny nz hu hv
 have hb:=Below.refl w.heap.size w
 go_enter Tryz.func19,Tryz.ntmps19
 go_upto_region 1 with fail
 refine wp_alloc2 (fun w1 a0 a1 hk=>?_)
 replace hb:=hb.trans (hk.mono hb.size)
 clear hk
 obtain ⟨Ab,Ac,Ad⟩:=ce3 a0
 obtain ⟨Ae,Af,Ag⟩:=ce3 a1
 go_upto_region 1 with fail
 obtain ⟨Bg,Bh,Bi⟩:=cy3 a0
 obtain ⟨Bj,Bk,Bl⟩:=cy3 a1
 have Be:=rrV C1 R hb
 have Bf:=rrV C2 R hb
 refine wp_region_tail_below 4 (by first | assumption | kernel_rfl) (by kernel_rfl) ?_
 simp only [List.take_succ_cons,List.take_zero,List.drop_succ_cons,List.drop_zero]
 repeat (quiet_step (first | (with_reducible exact Be.out _ _) | (with_reducible exact Bf.out _ _)))
 refine wpQuiet_nil ?_
 intro w1 hw'
 obtain ⟨hk,hb⟩:=zQ hb hw'
 clear Ab Ac Ad Ae Af Ag
 replace a0:=zB hk a0
 replace a1:=zB hk a1
 obtain ⟨Ab,Ac,Ad⟩:=ce3 a0
 obtain ⟨Ae,Af,Ag⟩:=ce3 a1
 clear Be Bf Bg Bh Bi Bj Bk Bl
 clear hk hw'
 go_wp2_with ((first | (go_at_call 43;with_reducible refine (zL hb (C3.out _ (R.below hb))).mono ?_) | (go_at_call 49;with_reducible refine (chVB hb R C4).mono ?_));clear hb;rintro e w1 ⟨rfl,hk,hb⟩;clear Ab Ac Ad Ae Af Ag;replace a0:=zB hk a0;replace a1:=zB hk a1;obtain ⟨Ab,Ac,Ad⟩:=ce3 a0;obtain ⟨Ae,Af,Ag⟩:=ce3 a1;clear hk)
 first | go_ret | go_ret2 | go_ret3
 exact ⟨rfl,hb⟩
end Go.Proofs.YtpiiclmkbplkhaaGreatDoor.Kl
