import Derived.Test.YtpiiclmkbplkhaaGreatDoorKlLFormsCLN
import Derived.Test.YtpiiclmkbplkhaaGreatDoorKlBLRZ
namespace Go.Proofs.YtpiiclmkbplkhaaGreatDoor.Kl
open Go Go.RowKit
set_option maxRecDepth 100000
set_option maxHeartbeats 8000000
theorem lSame_t (a b c x y z:Rat) (na:RN a 6 3) (nb:RN b 6 3) (nc:RN c 6 3) (nx:RN x 6 3) (ny:RN y 6 3) (nz:RN z 6 3) (hu:a≠0∨b≠0∨c≠0) (hv:x≠0∨y≠0∨z≠0) (hp:((b*z) - (c*y))=0∧((c*x) - (a*z))=0∧((a*y) - (b*x))=0) (w:World) (R:EnvV w) :
   Calls Tryz.prog 16 #[.agg #[.string (ratB a),.string (ratB b),.string (ratB c)],.agg #[.string (ratB x),.string (ratB y),.string (ratB z)]] w (Ret w (.tuple #[.bool true,.int .i64 0])):=by
 have Ag:=RN_mul nb nz
 have Ah:=RN_mul nc ny
 have Ai:=RN_mul nc nx
 have Aj:=RN_mul na nz
 have Ak:=RN_mul na ny
 have Al:=RN_mul nb nx
 have c1:=lcheck_ok a b c hu na.r2 nb.r2 nc.r2
 have c2:=lcheck_ok x y z hv nx.r2 ny.r2 nz.r2
 have c3:=fun (w:World) (R:EnvV w)=>orErr2 0 0 0 (by decide) w R.toEnvR
 have c4:CV 44 #[.agg #[.string (ratB a),.string (ratB b),.string (ratB c)],.agg #[.string (ratB x),.string (ratB y),.string (ratB z)]] (.tuple #[.bool true,.int .i64 0]):=fun w R=>(by have h':=parallel_any a b c x y z na.r2 nb.r2 nc.r2 nx.r2 ny.r2 nz.r2 nb.rm nz.rm nc.rm ny.rm Ag.rm Ah.rm nx.rm na.rm Ai.rm Aj.rm Ak.rm Al.rm w R;rw [decide_eq_true hp] at h';exact h')
 obtain ⟨A0,Am⟩:∃ vq,ratB a=vq:=⟨_,rfl⟩
 obtain ⟨A1,An⟩:∃ vq,ratB b=vq:=⟨_,rfl⟩
 obtain ⟨A2,Ao⟩:∃ vq,ratB c=vq:=⟨_,rfl⟩
 obtain ⟨A3,Ap⟩:∃ vq,ratB x=vq:=⟨_,rfl⟩
 obtain ⟨A4,Aq⟩:∃ vq,ratB y=vq:=⟨_,rfl⟩
 obtain ⟨A5,Ar⟩:∃ vq,ratB z=vq:=⟨_,rfl⟩
 try simp only [Am,An,Ao,Ap,Aq,Ar] at c1 c2 c3 c4 ⊢
 have C1:=Lib.hid c1
 have C2:=Lib.hid c2
 have C3:=Lib.hid c3
 have C4:=Lib.hid c4
 clear c1 c2 c3 c4 Am An Ao Ap Aq Ar Ag Ah Ai Aj Ak Al na nb nc nx ny nz hu hv hp
 have hb:=Below.refl w.heap.size w
 go_enter Tryz.func16,Tryz.ntmps16
 go_upto_region 1 with fail
 refine wp_alloc2 (fun w1 a0 a1 hk=>?_)
 replace hb:=hb.trans (hk.mono hb.size)
 clear hk
 obtain ⟨Aa,Ab,Ac⟩:=ce3 a0
 obtain ⟨Ad,Ae,Af⟩:=ce3 a1
 go_upto_region 1 with fail
 obtain ⟨Au,Av,Aw⟩:=cy3 a0
 obtain ⟨Ax,Ay,Az⟩:=cy3 a1
 have As:=rrV C1 R hb
 have At:=rrV C2 R hb
 refine wp_region_tail_below 4 (by first | assumption | kernel_rfl) (by kernel_rfl) ?_
 simp only [List.take_succ_cons,List.take_zero,List.drop_succ_cons,List.drop_zero]
 repeat (quiet_step (first | (with_reducible exact As.out _ _) | (with_reducible exact At.out _ _)))
 refine wpQuiet_nil ?_
 intro w1 hw'
 obtain ⟨hk,hb⟩:=zQ hb hw'
 clear Aa Ab Ac Ad Ae Af
 replace a0:=zB hk a0
 replace a1:=zB hk a1
 obtain ⟨Aa,Ab,Ac⟩:=ce3 a0
 obtain ⟨Ad,Ae,Af⟩:=ce3 a1
 clear As At Au Av Aw Ax Ay Az
 clear hk hw'
 go_wp2_with ((first | (go_at_call 43;with_reducible refine (zL hb (C3.out _ (R.below hb))).mono ?_) | (go_at_call 44;with_reducible refine (chVB hb R C4).mono ?_));clear hb;rintro e w1 ⟨rfl,hk,hb⟩;clear Aa Ab Ac Ad Ae Af;replace a0:=zB hk a0;replace a1:=zB hk a1;obtain ⟨Aa,Ab,Ac⟩:=ce3 a0;obtain ⟨Ad,Ae,Af⟩:=ce3 a1;clear hk)
 first | go_ret | go_ret2 | go_ret3
 exact ⟨rfl,hb⟩
end Go.Proofs.YtpiiclmkbplkhaaGreatDoor.Kl
