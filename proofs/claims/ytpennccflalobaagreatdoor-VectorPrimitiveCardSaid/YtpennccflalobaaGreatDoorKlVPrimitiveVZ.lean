import Derived.Test.YtpennccflalobaaGreatDoorKlVPrimitiveVW
import Derived.Test.YtpennccflalobaaGreatDoorKlBVYZ
namespace Go.Proofs.YtpennccflalobaaGreatDoor.Kl
open Go Go.RowKit
set_option maxRecDepth 100000
set_option maxHeartbeats 8000000
def SmallIs (i g:Int) (p:Rat):Prop:=(-32768≤i∧i≤32767)∧(0≤g∧g≤255)∧fieldQ i g=p
theorem SmallIs.rn {i g:Int} {p:Rat} (h:SmallIs i g p):RN p 5 3:=h.2.2 ▸ RN_field i g h.1 h.2.1
theorem SmallIs.i0 {i g:Int} {p:Rat} (h:SmallIs i g p) : -32768≤i:=h.1.1
theorem makeS (i g:Int) (p:Rat) (h:SmallIs i g p) (w:World) (R:EnvR w) :
   Calls Tryz.prog 31 #[.agg #[.int .i16 i,.int .u8 g]] w (Ret w (.string (ratB p))):=by
 have:=make2_any i g h.1 h.2.1 w R
 rwa [h.2.2] at this
theorem makeV  (i0 g0 i1 g1 i2 g2:Int) (p0 p1 p2:Rat) (k0:SmallIs i0 g0 p0) (k1:SmallIs i1 g1 p1) (k2:SmallIs i2 g2 p2) (w:World) (R:EnvV w) :
   Calls Tryz.prog 30 #[.agg #[.int .i16 i0,.int .u8 g0,.int .i16 i1,.int .u8 g1,.int .i16 i2,.int .u8 g2]] w (Ret w (.agg #[.string (ratB p0),.string (ratB p1),.string (ratB p2)])):=by
 have c1:=fun (w:World) (R:EnvV w)=>makeS i0 g0 p0 k0 w R.toEnvR
 have c2:=fun (w:World) (R:EnvV w)=>makeS i1 g1 p1 k1 w R.toEnvR
 have c3:=fun (w:World) (R:EnvV w)=>makeS i2 g2 p2 k2 w R.toEnvR
 obtain ⟨As,Ad⟩:∃ vq,ratB p0=vq:=⟨_,rfl⟩
 obtain ⟨At,Ae⟩:∃ vq,ratB p1=vq:=⟨_,rfl⟩
 obtain ⟨Au,Af⟩:∃ vq,ratB p2=vq:=⟨_,rfl⟩
 try simp only [Ad,Ae,Af] at c1 c2 c3 ⊢
 have C1:=Lib.hid c1
 have C2:=Lib.hid c2
 have C3:=Lib.hid c3
 clear c1 c2 c3 Ad Ae Af k0 k1 k2
 have hb:=Below.refl w.heap.size w
 go_enter Tryz.func30,Tryz.ntmps30
 go_upto_region 1 with fail
 refine wp_alloc2 (fun w1 a0 a1 hk=>?_)
 replace hb:=hb.trans (hk.mono hb.size)
 clear hk
 obtain ⟨Ag,Ah,Ai,Aj,Ak,Al⟩:=ce6 a0
 obtain ⟨Aa,Am,Ab,An,Ac,Ao⟩:=cf3 a1
 go_upto_region 1 with fail
 obtain ⟨Av,Aw,Ax,Ay,Az,A0⟩:=cy6 a0
 obtain ⟨A1,A2,A3⟩:=cy3 a1
 have Ap:=rrV C1 R hb
 have Aq:=rrV C2 R hb
 have Ar:=rrV C3 R hb
 refine wp_region_tail_below 10 (by first | assumption | kernel_rfl) (by kernel_rfl) ?_
 simp only [List.take_succ_cons,List.take_zero,List.drop_succ_cons,List.drop_zero]
 repeat (quiet_step (first | (with_reducible exact Ap.out _ _) | (with_reducible exact Aq.out _ _) | (with_reducible exact Ar.out _ _)))
 refine wpQuiet_nil ?_
 intro w1 hw'
 obtain ⟨hk,hb⟩:=zQ hb hw'
 clear Ag Ah Ai Aj Ak Al Aa Ab Ac Am An Ao
 replace a0:=zB hk a0
 replace a1:=zB hk a1
 obtain ⟨Ag,Ah,Ai,Aj,Ak,Al⟩:=ce6 a0
 obtain ⟨Aa,Am,Ab,An,Ac,Ao⟩:=cf3 a1
 clear Ap Aq Ar Av Aw Ax Ay Az A0 A1 A2 A3
 clear hk hw'
 go_wp2
 refine bodyPost_ret (v:=.agg #[.string As,.string At,.string Au]) (by simp [results,Tryz.results30,go_sem,Aa,Ab,Ac]) rfl ⟨rfl,?_⟩
 repeat' (first | exact hb | refine Below.setCell ?_ (by first | exact Nat.le_refl _ | (dsimp only;omega)) _)
end Go.Proofs.YtpennccflalobaaGreatDoor.Kl
