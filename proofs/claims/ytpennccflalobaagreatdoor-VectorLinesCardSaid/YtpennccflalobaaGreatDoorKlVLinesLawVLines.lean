import Derived.Test.YtpennccflalobaaGreatDoorKlVLinesLawVLinesN
import Derived.Test.YtpennccflalobaaGreatDoorKlVLinesLawVLinesO
import Derived.Test.YtpennccflalobaaGreatDoorKlVLinesLawVLinesP
import Derived.Test.YtpennccflalobaaGreatDoorKlVLinesLawVLinesQ
import Derived.Test.YtpennccflalobaaGreatDoorKlVLinesLawVLinesR
import Derived.Test.YtpennccflalobaaGreatDoorKlVLinesLawVLinesS
namespace Go.Proofs.YtpennccflalobaaGreatDoor.Kl
open Go Go.RowKit
set_option maxRecDepth 100000
set_option maxHeartbeats 8000000
theorem lines_main  (i0 g0 i1 g1 i2 g2 i3 g3 i4 g4 i5 g5 i6 g6 i7 g7 i8 g8 i9 g9 i10 g10 i11 g11:Int) (p0 p1 p2 p3 p4 p5 p6 p7 p8 p9 p10 p11:Rat) (k0:SmallIs i0 g0 p0) (k1:SmallIs i1 g1 p1) (k2:SmallIs i2 g2 p2) (k3:SmallIs i3 g3 p3) (k4:SmallIs i4 g4 p4) (k5:SmallIs i5 g5 p5) (k6:SmallIs i6 g6 p6) (k7:SmallIs i7 g7 p7) (k8:SmallIs i8 g8 p8) (k9:SmallIs i9 g9 p9) (k10:SmallIs i10 g10 p10) (k11:SmallIs i11 g11 p11) (d0:¬ (p0=p3∧p1=p4)) (d1:¬ (p6=p9∧p7=p10)) (w:World) (R:EnvV w) :
   Calls Tryz.prog 8 #[.agg #[.int .i16 i0,.int .u8 g0,.int .i16 i1,.int .u8 g1,.int .i16 i2,.int .u8 g2,.int .i16 i3,.int .u8 g3,.int .i16 i4,.int .u8 g4,.int .i16 i5,.int .u8 g5],.agg #[.int .i16 i6,.int .u8 g6,.int .i16 i7,.int .u8 g7,.int .i16 i8,.int .u8 g8,.int .i16 i9,.int .u8 g9,.int .i16 i10,.int .u8 g10,.int .i16 i11,.int .u8 g11]] w (Ret w (.bool true)):=by
 obtain ⟨lA,eA⟩:∃ q,p1 - p4=q:=⟨_,rfl⟩
 obtain ⟨lB,eB⟩:∃ q,p3 - p0=q:=⟨_,rfl⟩
 obtain ⟨lC,eC⟩:∃ q,(lA*p0)+(lB*p1)=q:=⟨_,rfl⟩
 obtain ⟨mA,eF⟩:∃ q,p7 - p10=q:=⟨_,rfl⟩
 obtain ⟨mB,eG⟩:∃ q,p9 - p6=q:=⟨_,rfl⟩
 obtain ⟨mC,eH⟩:∃ q,(mA*p6)+(mB*p7)=q:=⟨_,rfl⟩
 obtain ⟨lu,eU⟩:∃ q,((lA*p6)+(lB*p7)) - lC=q:=⟨_,rfl⟩
 obtain ⟨lv,eV⟩:∃ q,((lA*p9)+(lB*p10)) - lC=q:=⟨_,rfl⟩
 have Aq:=RN_sub (N:=8) k1.rn k4.rn
 have Bb:=RN_sub (N:=8) k3.rn k0.rn
 have Ar:=RN_sub (N:=8) k7.rn k10.rn
 have Bc:=RN_sub (N:=8) k9.rn k6.rn
 have Aa:RN lA 9 6:=eA ▸ Aq
 have Ab:RN lB 9 6:=eB ▸ Bb
 have An:RN mA 9 6:=eF ▸ Ar
 have Ao:RN mB 9 6:=eG ▸ Bc
 have Bp:=RN_mul Aa k0.rn
 have Bq:=RN_mul Ab k1.rn
 have Br:=RN_add (N:=23) Bp Bq
 have Ac:RN lC 24 18:=eC ▸ Br
 have Bs:=RN_mul An k6.rn
 have Bt:=RN_mul Ao k7.rn
 have Bu:=RN_add (N:=23) Bs Bt
 have As:RN mC 24 18:=eH ▸ Bu
 have Ad:=RN_mul Aa k6.rn
 have Ae:=RN_mul Ab k7.rn
 have Bv:=RN_add (N:=23) Ad Ae
 have Am:=RN_sub (N:=42) Bv Ac
 have B3:RN lu 43 36:=eU ▸ Am
 have Af:=RN_mul Aa k9.rn
 have Ag:=RN_mul Ab k10.rn
 have Bw:=RN_add (N:=23) Af Ag
 have Ap:=RN_sub (N:=42) Bw Ac
 have B4:RN lv 43 36:=eV ▸ Ap
 have Bd:=RN_sub (N:=8) k0.rn k3.rn
 have Be:=Bd.rl (K:=40000)
 have Av:=RN_mul Aq k0.rn
 have Aw:RN (-(p0 - p3)) 9 6:=(RN_neg Bd)
 have A4:=RN_add (N:=15) rn_0 Av
 have A0:=RN_mul Aw k1.rn
 have Bf:=RN_add (N:=25) A4 A0
 have A1:=RN_mul rn_m1 rn_0
 have Bx:=RN_add (N:=23) Av A0
 have Bg:=RN_sub (N:=25) Bx rn_0
 have By:=RN_mul Bb k1.rn
 have B5:=RN_add (N:=23) Av By
 have Bh:=RN_sub (N:=8) k6.rn k9.rn
 have Bi:=Bh.rl (K:=40000)
 have Ax:=RN_mul Ar k6.rn
 have Ay:RN (-(p6 - p9)) 9 6:=(RN_neg Bh)
 have A5:=RN_add (N:=15) rn_0 Ax
 have A2:=RN_mul Ay k7.rn
 have Bj:=RN_add (N:=25) A5 A2
 have Bz:=RN_add (N:=23) Ax A2
 have Bk:=RN_sub (N:=25) Bz rn_0
 have B0:=RN_mul Bc k7.rn
 have B6:=RN_add (N:=23) Ax B0
 have A6:=RN_mul Aa Ao
 have A7:=RN_mul Ab An
 have A8:=RN_mul Ac Ao
 have A9:=RN_mul Ab As
 have Ba:=RN_sub (N:=30) A6 A7
 have Bl:=RN_sub (N:=57) A8 A9
 have Bm:=RN_mul Aa As
 have Bn:=RN_mul Ac An
 have Bo:=RN_sub (N:=57) Bm Bn
 have B1:=fun hD=>RN_div Bl Ba hD
 have B2:=fun hD=>RN_div Bo Ba hD
 have Az:=RN_sub (N:=79) Am Ap
 have Ah:=RN_add (N:=15) rn_0 Ad
 have Aj:=RN_add (N:=25) Ah Ae
 have Ak:=RN_mul rn_m1 Ac
 have Ai:=RN_add (N:=15) rn_0 Af
 have Al:=RN_add (N:=25) Ai Ag
 have At:=Am.rl (K:=100000)
 have Au:=Ap.rl (K:=100000)
 have A3:=fun (hk:lu - lv≠0)=>RN_div Am Az (by rw [eU,eV];exact hk)
 have cT0:CV 54 #[.agg #[.string (ratB p0),.string (ratB p1)],.agg #[.string (ratB p3),.string (ratB p4)]] (.tuple #[.agg #[.string (ratB lA),.string (ratB lB),.string (ratB lC)],.int .i64 0]):=fun w R=>by
   have hne:=d0
   by_cases h:p0=p3
   · have t:=through_1 p0 p1 p3 p4 h (fun k=>hne ⟨h,k⟩) k0.rn.r2 k1.rn.r2 k3.rn.r2 k4.rn.r2 k0.rn.rm k3.rn.rm k1.rn.rm k4.rn.rm Be Aq.rm Av.rm Aw.rm A4.rm A0.rm Bf.rm A1.rm Aq.r2 Aw.r2 Bg.r2 w R
     rw [eA,eB,eC] at t;exact t
   · have t:=through_0 p0 p1 p3 p4 h k0.rn.r2 k1.rn.r2 k3.rn.r2 k4.rn.r2 k0.rn.rm k3.rn.rm k1.rn.rm k4.rn.rm Be Aq.rm Av.rm Aw.rm A4.rm A0.rm Bf.rm A1.rm Aq.r2 Aw.r2 Bg.r2 w R
     rw [eA,eB,eC] at t;exact t
 have cT1:CV 54 #[.agg #[.string (ratB p6),.string (ratB p7)],.agg #[.string (ratB p9),.string (ratB p10)]] (.tuple #[.agg #[.string (ratB mA),.string (ratB mB),.string (ratB mC)],.int .i64 0]):=fun w R=>by
   have hne:=d1
   by_cases h:p6=p9
   · have t:=through_1 p6 p7 p9 p10 h (fun k=>hne ⟨h,k⟩) k6.rn.r2 k7.rn.r2 k9.rn.r2 k10.rn.r2 k6.rn.rm k9.rn.rm k7.rn.rm k10.rn.rm Bi Ar.rm Ax.rm Ay.rm A5.rm A2.rm Bj.rm A1.rm Ar.r2 Ay.r2 Bk.r2 w R
     rw [eF,eG,eH] at t;exact t
   · have t:=through_0 p6 p7 p9 p10 h k6.rn.r2 k7.rn.r2 k9.rn.r2 k10.rn.r2 k6.rn.rm k9.rn.rm k7.rn.rm k10.rn.rm Bi Ar.rm Ax.rm Ay.rm A5.rm A2.rm Bj.rm A1.rm Ar.r2 Ay.r2 Bk.r2 w R
     rw [eF,eG,eH] at t;exact t
 have nL:lA≠0∨lB≠0:=by
   by_cases h:lA=0
   · exact Or.inr (fun k=>d0 ⟨by grind,by grind⟩)
   · exact Or.inl h
 have nM:mA≠0∨mB≠0:=by
   by_cases h:mA=0
   · exact Or.inr (fun k=>d1 ⟨by grind,by grind⟩)
   · exact Or.inl h
 have x0:¬ ((ratB p0).toList=(ratB p3).toList∧(ratB p1).toList=(ratB p4).toList):=fun h=>d0 ⟨ratB_li h.1,ratB_li h.2⟩
 have x1:¬ ((ratB p6).toList=(ratB p9).toList∧(ratB p7).toList=(ratB p10).toList):=fun h=>d1 ⟨ratB_li h.1,ratB_li h.2⟩
 by_cases hD:((lA*mB) - (lB*mA))=0
 · have hpq:lA*mB=lB*mA:=by grind
   have cM:=fun (w:World) (R:EnvV w)=>vmeet_par lA lB lC mA mB mC hD Aa.r2 Ab.r2 Ac.r2 nL An.r2 Ao.r2 As.r2 nM Aa.rm Ao.rm Ab.rm An.rm A6.rm A7.rm Ac.rm As.rm A8.rm A9.rm w R
   obtain ⟨m,hsm⟩:∃ m,lu.num.sign*lv.num.sign=m:=⟨_,rfl⟩
   by_cases hm:m≤0
   · by_cases hu:lu=0
     · by_cases hv:lv=0
       · have huv:lu=lv:=hu.trans hv.symm
         have cC:CV 59 #[.agg #[.string (ratB lA),.string (ratB lB),.string (ratB lC)],.agg #[.string (ratB p6),.string (ratB p7)],.agg #[.string (ratB p9),.string (ratB p10)]] (.tuple #[.string ⟨#[]⟩,.bool false,.int .i64 0]):=fun w R=>cut_0 lA lB lC p6 p7 p9 p10 (by rw [eU,eV];exact huv) Aa.r2 Ab.r2 Ac.r2 nL k6.rn.r2 k7.rn.r2 k9.rn.r2 k10.rn.r2 Aa.rm k6.rn.rm Ad.rm Ab.rm k7.rn.rm Ah.rm Ae.rm Ac.rm Aj.rm Ak.rm k9.rn.rm Af.rm k10.rn.rm Ai.rm Ag.rm Al.rm w R
         exact lines_pz i0 g0 i1 g1 i2 g2 i3 g3 i4 g4 i5 g5 i6 g6 i7 g7 i8 g8 i9 g9 i10 g10 i11 g11 p0 p1 p2 p3 p4 p5 p6 p7 p8 p9 p10 p11 k0 k1 k2 k3 k4 k5 k6 k7 k8 k9 k10 k11 lA lB lC mA mB mC lu lv eA eB eC eF eG eH eU eV hpq hu hv m hsm hm x0 x1 cT0 cT1 cM cC w R
       · have huv:lu≠lv:=fun h=>hv (h ▸ hu)
         have hk:lu - lv≠0:=fun h=>huv (by grind)
         have cC:CV 59 #[.agg #[.string (ratB lA),.string (ratB lB),.string (ratB lC)],.agg #[.string (ratB p6),.string (ratB p7)],.agg #[.string (ratB p9),.string (ratB p10)]] (.tuple #[.string (ratB (lu / (lu - lv))),.bool true,.int .i64 0]):=fun w R=>by have t:=cut_2 m lA lB lC p6 p7 p9 p10 (by rw [eU,eV];exact huv) (by rw [eU,eV];exact hsm) hm Aa.r2 Ab.r2 Ac.r2 nL k6.rn.r2 k7.rn.r2 k9.rn.r2 k10.rn.r2 Aa.rm k6.rn.rm Ad.rm Ab.rm k7.rn.rm Ah.rm Ae.rm Ac.rm Aj.rm Ak.rm k9.rn.rm Af.rm k10.rn.rm Ai.rm Ag.rm Al.rm At Au Am.rm Ap.rm (by rw [eU,eV];exact hk) Az.rm (A3 hk).r2 w R;rw [eU,eV] at t;exact t
         exact lines_pa i0 g0 i1 g1 i2 g2 i3 g3 i4 g4 i5 g5 i6 g6 i7 g7 i8 g8 i9 g9 i10 g10 i11 g11 p0 p1 p2 p3 p4 p5 p6 p7 p8 p9 p10 p11 k0 k1 k2 k3 k4 k5 k6 k7 k8 k9 k10 k11 lA lB lC mA mB mC lu lv eA eB eC eF eG eH eU eV hpq hu hv m hsm hm x0 x1 cT0 cT1 cM hk cC w R
     · have huv:lu≠lv:=fun h=>by
         have h1:=sq_sgn lu.num (mt Rat.num_eq_zero.1 hu)
         rw [← h] at hsm;omega
       have hk:lu - lv≠0:=fun h=>huv (by grind)
       have cC:CV 59 #[.agg #[.string (ratB lA),.string (ratB lB),.string (ratB lC)],.agg #[.string (ratB p6),.string (ratB p7)],.agg #[.string (ratB p9),.string (ratB p10)]] (.tuple #[.string (ratB (lu / (lu - lv))),.bool true,.int .i64 0]):=fun w R=>by have t:=cut_2 m lA lB lC p6 p7 p9 p10 (by rw [eU,eV];exact huv) (by rw [eU,eV];exact hsm) hm Aa.r2 Ab.r2 Ac.r2 nL k6.rn.r2 k7.rn.r2 k9.rn.r2 k10.rn.r2 Aa.rm k6.rn.rm Ad.rm Ab.rm k7.rn.rm Ah.rm Ae.rm Ac.rm Aj.rm Ak.rm k9.rn.rm Af.rm k10.rn.rm Ai.rm Ag.rm Al.rm At Au Am.rm Ap.rm (by rw [eU,eV];exact hk) Az.rm (A3 hk).r2 w R;rw [eU,eV] at t;exact t
       exact lines_pb i0 g0 i1 g1 i2 g2 i3 g3 i4 g4 i5 g5 i6 g6 i7 g7 i8 g8 i9 g9 i10 g10 i11 g11 p0 p1 p2 p3 p4 p5 p6 p7 p8 p9 p10 p11 k0 k1 k2 k3 k4 k5 k6 k7 k8 k9 k10 k11 lA lB lC mA mB mC lu lv eA eB eC eF eG eH eU eV hpq hu m hsm hm x0 x1 cT0 cT1 cM hk cC w R
   · replace hm:0 < m:=by omega
     have cC:CV 59 #[.agg #[.string (ratB lA),.string (ratB lB),.string (ratB lC)],.agg #[.string (ratB p6),.string (ratB p7)],.agg #[.string (ratB p9),.string (ratB p10)]] (.tuple #[.string ⟨#[]⟩,.bool false,.int .i64 0]):=fun w R=>by
       by_cases huv:lu=lv
       · exact cut_0 lA lB lC p6 p7 p9 p10 (by rw [eU,eV];exact huv) Aa.r2 Ab.r2 Ac.r2 nL k6.rn.r2 k7.rn.r2 k9.rn.r2 k10.rn.r2 Aa.rm k6.rn.rm Ad.rm Ab.rm k7.rn.rm Ah.rm Ae.rm Ac.rm Aj.rm Ak.rm k9.rn.rm Af.rm k10.rn.rm Ai.rm Ag.rm Al.rm w R
       · exact cut_1 m lA lB lC p6 p7 p9 p10 (by rw [eU,eV];exact huv) (by rw [eU,eV];exact hsm) hm Aa.r2 Ab.r2 Ac.r2 nL k6.rn.r2 k7.rn.r2 k9.rn.r2 k10.rn.r2 Aa.rm k6.rn.rm Ad.rm Ab.rm k7.rn.rm Ah.rm Ae.rm Ac.rm Aj.rm Ak.rm k9.rn.rm Af.rm k10.rn.rm Ai.rm Ag.rm Al.rm At Au w R
     exact lines_pp i0 g0 i1 g1 i2 g2 i3 g3 i4 g4 i5 g5 i6 g6 i7 g7 i8 g8 i9 g9 i10 g10 i11 g11 p0 p1 p2 p3 p4 p5 p6 p7 p8 p9 p10 p11 k0 k1 k2 k3 k4 k5 k6 k7 k8 k9 k10 k11 lA lB lC mA mB mC lu lv eA eB eC eF eG eH eU eV hpq m hsm hm x0 x1 cT0 cT1 cM cC w R
 · have hpq:lA*mB≠lB*mA:=fun h=>hD (by grind)
   have cM:=fun (w:World) (R:EnvV w)=>vmeet_any lA lB lC mA mB mC Aa.r2 Ab.r2 Ac.r2 nL An.r2 Ao.r2 As.r2 nM Aa.rm Ao.rm Ab.rm An.rm A6.rm A7.rm Ac.rm As.rm A8.rm A9.rm hD Bl.rm Ba.rm Bm.rm Bn.rm Bo.rm (B1 hD).r2 (B2 hD).r2 w R
   obtain ⟨m,hsm⟩:∃ m,lu.num.sign*lv.num.sign=m:=⟨_,rfl⟩
   by_cases hm:m≤0
   · by_cases hu:lu=0
     · by_cases hv:lv=0
       · have huv:lu=lv:=hu.trans hv.symm
         have cC:CV 59 #[.agg #[.string (ratB lA),.string (ratB lB),.string (ratB lC)],.agg #[.string (ratB p6),.string (ratB p7)],.agg #[.string (ratB p9),.string (ratB p10)]] (.tuple #[.string ⟨#[]⟩,.bool false,.int .i64 0]):=fun w R=>cut_0 lA lB lC p6 p7 p9 p10 (by rw [eU,eV];exact huv) Aa.r2 Ab.r2 Ac.r2 nL k6.rn.r2 k7.rn.r2 k9.rn.r2 k10.rn.r2 Aa.rm k6.rn.rm Ad.rm Ab.rm k7.rn.rm Ah.rm Ae.rm Ac.rm Aj.rm Ak.rm k9.rn.rm Af.rm k10.rn.rm Ai.rm Ag.rm Al.rm w R
         exact lines_nz i0 g0 i1 g1 i2 g2 i3 g3 i4 g4 i5 g5 i6 g6 i7 g7 i8 g8 i9 g9 i10 g10 i11 g11 p0 p1 p2 p3 p4 p5 p6 p7 p8 p9 p10 p11 k0 k1 k2 k3 k4 k5 k6 k7 k8 k9 k10 k11 lA lB lC mA mB mC lu lv eA eB eC eF eG eH eU eV hpq hu hv m hsm hm x0 x1 cT0 cT1 cM hD cC w R
       · have huv:lu≠lv:=fun h=>hv (h ▸ hu)
         have hk:lu - lv≠0:=fun h=>huv (by grind)
         have cC:CV 59 #[.agg #[.string (ratB lA),.string (ratB lB),.string (ratB lC)],.agg #[.string (ratB p6),.string (ratB p7)],.agg #[.string (ratB p9),.string (ratB p10)]] (.tuple #[.string (ratB (lu / (lu - lv))),.bool true,.int .i64 0]):=fun w R=>by have t:=cut_2 m lA lB lC p6 p7 p9 p10 (by rw [eU,eV];exact huv) (by rw [eU,eV];exact hsm) hm Aa.r2 Ab.r2 Ac.r2 nL k6.rn.r2 k7.rn.r2 k9.rn.r2 k10.rn.r2 Aa.rm k6.rn.rm Ad.rm Ab.rm k7.rn.rm Ah.rm Ae.rm Ac.rm Aj.rm Ak.rm k9.rn.rm Af.rm k10.rn.rm Ai.rm Ag.rm Al.rm At Au Am.rm Ap.rm (by rw [eU,eV];exact hk) Az.rm (A3 hk).r2 w R;rw [eU,eV] at t;exact t
         exact lines_na i0 g0 i1 g1 i2 g2 i3 g3 i4 g4 i5 g5 i6 g6 i7 g7 i8 g8 i9 g9 i10 g10 i11 g11 p0 p1 p2 p3 p4 p5 p6 p7 p8 p9 p10 p11 k0 k1 k2 k3 k4 k5 k6 k7 k8 k9 k10 k11 lA lB lC mA mB mC lu lv eA eB eC eF eG eH eU eV hpq hu hv m hsm hm x0 x1 cT0 cT1 cM hD hk cC w R
     · have huv:lu≠lv:=fun h=>by
         have h1:=sq_sgn lu.num (mt Rat.num_eq_zero.1 hu)
         rw [← h] at hsm;omega
       have hk:lu - lv≠0:=fun h=>huv (by grind)
       have cC:CV 59 #[.agg #[.string (ratB lA),.string (ratB lB),.string (ratB lC)],.agg #[.string (ratB p6),.string (ratB p7)],.agg #[.string (ratB p9),.string (ratB p10)]] (.tuple #[.string (ratB (lu / (lu - lv))),.bool true,.int .i64 0]):=fun w R=>by have t:=cut_2 m lA lB lC p6 p7 p9 p10 (by rw [eU,eV];exact huv) (by rw [eU,eV];exact hsm) hm Aa.r2 Ab.r2 Ac.r2 nL k6.rn.r2 k7.rn.r2 k9.rn.r2 k10.rn.r2 Aa.rm k6.rn.rm Ad.rm Ab.rm k7.rn.rm Ah.rm Ae.rm Ac.rm Aj.rm Ak.rm k9.rn.rm Af.rm k10.rn.rm Ai.rm Ag.rm Al.rm At Au Am.rm Ap.rm (by rw [eU,eV];exact hk) Az.rm (A3 hk).r2 w R;rw [eU,eV] at t;exact t
       exact lines_nb i0 g0 i1 g1 i2 g2 i3 g3 i4 g4 i5 g5 i6 g6 i7 g7 i8 g8 i9 g9 i10 g10 i11 g11 p0 p1 p2 p3 p4 p5 p6 p7 p8 p9 p10 p11 k0 k1 k2 k3 k4 k5 k6 k7 k8 k9 k10 k11 lA lB lC mA mB mC lu lv eA eB eC eF eG eH eU eV hpq hu m hsm hm x0 x1 cT0 cT1 cM hD hk cC w R
   · replace hm:0 < m:=by omega
     have cC:CV 59 #[.agg #[.string (ratB lA),.string (ratB lB),.string (ratB lC)],.agg #[.string (ratB p6),.string (ratB p7)],.agg #[.string (ratB p9),.string (ratB p10)]] (.tuple #[.string ⟨#[]⟩,.bool false,.int .i64 0]):=fun w R=>by
       by_cases huv:lu=lv
       · exact cut_0 lA lB lC p6 p7 p9 p10 (by rw [eU,eV];exact huv) Aa.r2 Ab.r2 Ac.r2 nL k6.rn.r2 k7.rn.r2 k9.rn.r2 k10.rn.r2 Aa.rm k6.rn.rm Ad.rm Ab.rm k7.rn.rm Ah.rm Ae.rm Ac.rm Aj.rm Ak.rm k9.rn.rm Af.rm k10.rn.rm Ai.rm Ag.rm Al.rm w R
       · exact cut_1 m lA lB lC p6 p7 p9 p10 (by rw [eU,eV];exact huv) (by rw [eU,eV];exact hsm) hm Aa.r2 Ab.r2 Ac.r2 nL k6.rn.r2 k7.rn.r2 k9.rn.r2 k10.rn.r2 Aa.rm k6.rn.rm Ad.rm Ab.rm k7.rn.rm Ah.rm Ae.rm Ac.rm Aj.rm Ak.rm k9.rn.rm Af.rm k10.rn.rm Ai.rm Ag.rm Al.rm At Au w R
     exact lines_np i0 g0 i1 g1 i2 g2 i3 g3 i4 g4 i5 g5 i6 g6 i7 g7 i8 g8 i9 g9 i10 g10 i11 g11 p0 p1 p2 p3 p4 p5 p6 p7 p8 p9 p10 p11 k0 k1 k2 k3 k4 k5 k6 k7 k8 k9 k10 k11 lA lB lC mA mB mC lu lv eA eB eC eF eG eH eU eV hpq m hsm hm x0 x1 cT0 cT1 cM hD cC w R
theorem lawLines (i0 g0 i1 g1 i2 g2 i3 g3 i4 g4 i5 g5 i6 g6 i7 g7 i8 g8 i9 g9 i10 g10 i11 g11:Int) (b0:(-32768≤i0∧i0≤32767)∧(0≤g0∧g0≤255)) (b1:(-32768≤i1∧i1≤32767)∧(0≤g1∧g1≤255)) (b2:(-32768≤i2∧i2≤32767)∧(0≤g2∧g2≤255)) (b3:(-32768≤i3∧i3≤32767)∧(0≤g3∧g3≤255)) (b4:(-32768≤i4∧i4≤32767)∧(0≤g4∧g4≤255)) (b5:(-32768≤i5∧i5≤32767)∧(0≤g5∧g5≤255)) (b6:(-32768≤i6∧i6≤32767)∧(0≤g6∧g6≤255)) (b7:(-32768≤i7∧i7≤32767)∧(0≤g7∧g7≤255)) (b8:(-32768≤i8∧i8≤32767)∧(0≤g8∧g8≤255)) (b9:(-32768≤i9∧i9≤32767)∧(0≤g9∧g9≤255)) (b10:(-32768≤i10∧i10≤32767)∧(0≤g10∧g10≤255)) (b11:(-32768≤i11∧i11≤32767)∧(0≤g11∧g11≤255)) (w:World) (R:EnvV w) :
   Calls Tryz.prog 8 #[.agg #[.int .i16 i0,.int .u8 g0,.int .i16 i1,.int .u8 g1,.int .i16 i2,.int .u8 g2,.int .i16 i3,.int .u8 g3,.int .i16 i4,.int .u8 g4,.int .i16 i5,.int .u8 g5],.agg #[.int .i16 i6,.int .u8 g6,.int .i16 i7,.int .u8 g7,.int .i16 i8,.int .u8 g8,.int .i16 i9,.int .u8 g9,.int .i16 i10,.int .u8 g10,.int .i16 i11,.int .u8 g11]] w (Ret w (.bool true)):=by
 obtain ⟨p0,k0⟩:∃ p,SmallIs i0 g0 p:=⟨_,b0.1,b0.2,rfl⟩
 obtain ⟨p1,k1⟩:∃ p,SmallIs i1 g1 p:=⟨_,b1.1,b1.2,rfl⟩
 obtain ⟨p2,k2⟩:∃ p,SmallIs i2 g2 p:=⟨_,b2.1,b2.2,rfl⟩
 obtain ⟨p3,k3⟩:∃ p,SmallIs i3 g3 p:=⟨_,b3.1,b3.2,rfl⟩
 obtain ⟨p4,k4⟩:∃ p,SmallIs i4 g4 p:=⟨_,b4.1,b4.2,rfl⟩
 obtain ⟨p5,k5⟩:∃ p,SmallIs i5 g5 p:=⟨_,b5.1,b5.2,rfl⟩
 obtain ⟨p6,k6⟩:∃ p,SmallIs i6 g6 p:=⟨_,b6.1,b6.2,rfl⟩
 obtain ⟨p7,k7⟩:∃ p,SmallIs i7 g7 p:=⟨_,b7.1,b7.2,rfl⟩
 obtain ⟨p8,k8⟩:∃ p,SmallIs i8 g8 p:=⟨_,b8.1,b8.2,rfl⟩
 obtain ⟨p9,k9⟩:∃ p,SmallIs i9 g9 p:=⟨_,b9.1,b9.2,rfl⟩
 obtain ⟨p10,k10⟩:∃ p,SmallIs i10 g10 p:=⟨_,b10.1,b10.2,rfl⟩
 obtain ⟨p11,k11⟩:∃ p,SmallIs i11 g11 p:=⟨_,b11.1,b11.2,rfl⟩
 by_cases e0:p0=p3∧p1=p4
 · by_cases e1:p6=p9∧p7=p10
   · exact linesE_ee i0 g0 i1 g1 i2 g2 i3 g3 i4 g4 i5 g5 i6 g6 i7 g7 i8 g8 i9 g9 i10 g10 i11 g11 p0 p1 p2 p3 p4 p5 p6 p7 p8 p9 p10 p11 k0 k1 k2 k3 k4 k5 k6 k7 k8 k9 k10 k11 e0.1 e0.2 e1.1 e1.2 w R
   · by_cases h:p6=p9
     · exact linesE_e1 i0 g0 i1 g1 i2 g2 i3 g3 i4 g4 i5 g5 i6 g6 i7 g7 i8 g8 i9 g9 i10 g10 i11 g11 p0 p1 p2 p3 p4 p5 p6 p7 p8 p9 p10 p11 k0 k1 k2 k3 k4 k5 k6 k7 k8 k9 k10 k11 e0.1 e0.2 h (fun k=>e1 ⟨h,k⟩) w R
     · exact linesE_e0 i0 g0 i1 g1 i2 g2 i3 g3 i4 g4 i5 g5 i6 g6 i7 g7 i8 g8 i9 g9 i10 g10 i11 g11 p0 p1 p2 p3 p4 p5 p6 p7 p8 p9 p10 p11 k0 k1 k2 k3 k4 k5 k6 k7 k8 k9 k10 k11 e0.1 e0.2 h w R
 · by_cases e1:p6=p9∧p7=p10
   · by_cases h:p0=p3
     · exact linesE_1e i0 g0 i1 g1 i2 g2 i3 g3 i4 g4 i5 g5 i6 g6 i7 g7 i8 g8 i9 g9 i10 g10 i11 g11 p0 p1 p2 p3 p4 p5 p6 p7 p8 p9 p10 p11 k0 k1 k2 k3 k4 k5 k6 k7 k8 k9 k10 k11 h (fun k=>e0 ⟨h,k⟩) e1.1 e1.2 w R
     · exact linesE_0e i0 g0 i1 g1 i2 g2 i3 g3 i4 g4 i5 g5 i6 g6 i7 g7 i8 g8 i9 g9 i10 g10 i11 g11 p0 p1 p2 p3 p4 p5 p6 p7 p8 p9 p10 p11 k0 k1 k2 k3 k4 k5 k6 k7 k8 k9 k10 k11 h e1.1 e1.2 w R
   · exact lines_main i0 g0 i1 g1 i2 g2 i3 g3 i4 g4 i5 g5 i6 g6 i7 g7 i8 g8 i9 g9 i10 g10 i11 g11 p0 p1 p2 p3 p4 p5 p6 p7 p8 p9 p10 p11 k0 k1 k2 k3 k4 k5 k6 k7 k8 k9 k10 k11 e0 e1 w R
end Go.Proofs.YtpennccflalobaaGreatDoor.Kl
