import Derived.Test.YtpennccflalobaaGreatDoorKlVLinesVMZ
import Derived.Test.YtpennccflalobaaGreatDoorKlBVYZ
namespace Go.Proofs.YtpennccflalobaaGreatDoor.Kl
open Go Go.RowKit
set_option maxRecDepth 100000
set_option maxHeartbeats 8000000
def SmallIs (i g:Int) (p:Rat):Prop:=(-32768≤i∧i≤32767)∧(0≤g∧g≤255)∧fieldQ i g=p
theorem SmallIs.rn {i g:Int} {p:Rat} (h:SmallIs i g p):RN p 5 3:=h.2.2 ▸ RN_field i g h.1 h.2.1
theorem SmallIs.i0 {i g:Int} {p:Rat} (h:SmallIs i g p) : -32768≤i:=h.1.1
theorem makeS (i g:Int) (p:Rat) (h:SmallIs i g p) (w:World) (R:EnvR w) :
   Calls Tryz.prog 31 #[.agg #[.int .i16 i,.int .u8 g]] w (Ret w (.string (ratB p))):=by
 have:=make2_any i g h.1 h.2.1 w R
 rwa [h.2.2] at this
theorem makeP  (i0 g0 i1 g1 i2 g2:Int) (p0 p1 p2:Rat) (k0:SmallIs i0 g0 p0) (k1:SmallIs i1 g1 p1) (_k2:SmallIs i2 g2 p2) (w:World) (R:EnvV w) :
   Calls Tryz.prog 44 #[.agg #[.int .i16 i0,.int .u8 g0,.int .i16 i1,.int .u8 g1,.int .i16 i2,.int .u8 g2]] w (Ret w (.agg #[.string (ratB p0),.string (ratB p1)])):=by
 have c1:=fun (w:World) (R:EnvV w)=>makeS i0 g0 p0 k0 w R.toEnvR
 have c2:=fun (w:World) (R:EnvV w)=>makeS i1 g1 p1 k1 w R.toEnvR
 obtain ⟨Ao,Ac⟩:∃ vq,ratB p0=vq:=⟨_,rfl⟩
 obtain ⟨Ap,Ad⟩:∃ vq,ratB p1=vq:=⟨_,rfl⟩
 try simp only [Ac,Ad] at c1 c2 ⊢
 have C1:=Lib.hid c1
 have C2:=Lib.hid c2
 clear c1 c2 Ac Ad k0 k1 _k2
 have hb:=Below.refl w.heap.size w
 go_enter Tryz.func44,Tryz.ntmps44
 go_upto_region 1 with fail
 refine wp_alloc2 (fun w1 a0 a1 hk=>?_)
 replace hb:=hb.trans (hk.mono hb.size)
 clear hk
 obtain ⟨Ae,Af,Ag,Ah,Ai,Aj⟩:=ce6 a0
 obtain ⟨Aa,Ak,Ab,Al⟩:=cf2 a1
 go_upto_region 1 with fail
 obtain ⟨Aq,Ar,As,At,Au,Av⟩:=cy6 a0
 obtain ⟨Aw,Ax⟩:=cy2 a1
 have Am:=rrV C1 R hb
 have An:=rrV C2 R hb
 refine wp_region_tail_below 7 (by first | assumption | kernel_rfl) (by kernel_rfl) ?_
 simp only [List.take_succ_cons,List.take_zero,List.drop_succ_cons,List.drop_zero]
 repeat (quiet_step (first | (with_reducible exact Am.out _ _) | (with_reducible exact An.out _ _)))
 refine wpQuiet_nil ?_
 intro w1 hw'
 obtain ⟨hk,hb⟩:=zQ hb hw'
 clear Ae Af Ag Ah Ai Aj Aa Ab Ak Al
 replace a0:=zB hk a0
 replace a1:=zB hk a1
 obtain ⟨Ae,Af,Ag,Ah,Ai,Aj⟩:=ce6 a0
 obtain ⟨Aa,Ak,Ab,Al⟩:=cf2 a1
 clear Am An Aq Ar As At Au Av Aw Ax
 clear hk hw'
 go_wp2
 refine bodyPost_ret (v:=.agg #[.string Ao,.string Ap]) (by simp [results,Tryz.results44,go_sem,Aa,Ab]) rfl ⟨rfl,?_⟩
 repeat' (first | exact hb | refine Below.setCell ?_ (by first | exact Nat.le_refl _ | (dsimp only;omega)) _)
end Go.Proofs.YtpennccflalobaaGreatDoor.Kl
