import Derived.Test.YtpiiclmkbplkhaaGreatDoorKlLPlanesCLVZ
import Derived.Test.YtpiiclmkbplkhaaGreatDoorKlLPlanesCLawLPlanes
namespace Go.Proofs.YtpiiclmkbplkhaaGreatDoor.Kl
open Go Go.RowKit
set_option maxRecDepth 100000
set_option maxHeartbeats 8000000
theorem lawPlanes (i0 i1 i2 d j0 j1 j2 e k0 k1 k2 f:Int) (bi0 : -128≤i0∧i0≤127) (bi1 : -128≤i1∧i1≤127) (bi2 : -128≤i2∧i2≤127) (bi3:0≤d∧d≤255) (bj0 : -128≤j0∧j0≤127) (bj1 : -128≤j1∧j1≤127) (bj2 : -128≤j2∧j2≤127) (bj3:0≤e∧e≤255) (bk0 : -128≤k0∧k0≤127) (bk1 : -128≤k1∧k1≤127) (bk2 : -128≤k2∧k2≤127) (bk3:0≤f∧f≤255) (w:World) (R:EnvV w) :
   Calls Tryz.prog 8 #[.agg #[.int .i8 i0,.int .i8 i1,.int .i8 i2,.int .u8 d],.agg #[.int .i8 j0,.int .i8 j1,.int .i8 j2,.int .u8 e],.agg #[.int .i8 k0,.int .i8 k1,.int .i8 k2,.int .u8 f]] w fun e_ w' => e_ = .returned (.bool true)∧Below w.heap.size w w':=by
 obtain ⟨X0,X1,X2,kX,bX,pX,rX,cX,ma⟩:=descr i0 i1 i2 d bi0 bi1 bi2 bi3
 obtain ⟨Y0,Y1,Y2,kY,bY,pY,rY,cY,mb⟩:=descr j0 j1 j2 e bj0 bj1 bj2 bj3
 obtain ⟨P0,P1,P2,kP,bP,pP,rP,cP,ml⟩:=descr k0 k1 k2 f bk0 bk1 bk2 bk3
 by_cases zX:X0=0∧X1=0∧X2=0
 · exact lplanes_z0 i0 i1 i2 j0 j1 j2 k0 k1 k2 _ _ _ d e f (fun w R=>known16_any w R) cX (fun w _=>lzero_t zX w) w R
 by_cases zY:Y0=0∧Y1=0∧Y2=0
 · exact lplanes_z1 i0 i1 i2 j0 j1 j2 k0 k1 k2 _ _ _ _ _ _ d e f (fun w R=>known16_any w R) cX (fun w _=>lzero_f zX w) cY (fun w _=>lzero_t zY w) w R
 by_cases zP:P0=0∧P1=0∧P2=0
 · exact lplanes_z2 i0 i1 i2 j0 j1 j2 k0 k1 k2 _ _ _ _ _ _ _ _ _ d e f (fun w R=>known16_any w R) cX (fun w _=>lzero_f zX w) cY (fun w _=>lzero_f zY w) cP (fun w _=>lzero_t zP w) w R
 have hX:=DV_of bX pX rX zX
 have hY:=DV_of bY pY rY zY
 have hP:=DV_of bP pP rP zP
 obtain ⟨D,eD⟩:∃ v,X0*P0+X1*P1+X2*P2=v:=⟨_,rfl⟩
 have bD:D.natAbs≤1200:=by
   have q0:=mulS (a:=400) bX.1 bP.1 (by decide)
   have q1:=mulS (a:=400) bX.2.1 bP.2.1 (by decide)
   have q2:=mulS (a:=400) bX.2.2 bP.2.2 (by decide)
   omega
 obtain ⟨K0,eK0⟩:∃ v,X1*Y2 - X2*Y1=v:=⟨_,rfl⟩
 have bK0:K0.natAbs≤800:=by
   have q0:=mulS (a:=400) bX.2.1 bY.2.2 (by decide)
   have q1:=mulS (a:=400) bX.2.2 bY.2.1 (by decide)
   omega
 obtain ⟨K1,eK1⟩:∃ v,X2*Y0 - X0*Y2=v:=⟨_,rfl⟩
 have bK1:K1.natAbs≤800:=by
   have q0:=mulS (a:=400) bX.2.2 bY.1 (by decide)
   have q1:=mulS (a:=400) bX.1 bY.2.2 (by decide)
   omega
 obtain ⟨K2,eK2⟩:∃ v,X0*Y1 - X1*Y0=v:=⟨_,rfl⟩
 have bK2:K2.natAbs≤800:=by
   have q0:=mulS (a:=400) bX.1 bY.2.1 (by decide)
   have q1:=mulS (a:=400) bX.2.1 bY.1 (by decide)
   omega
 have hcr:∀ w,EnvV w→_:=fun w (_:EnvV w)=>lcross_any X0 X1 X2 Y0 Y1 Y2 hX.b0 hX.b1 hX.b2 hY.b0 hY.b1 hY.b2 w
 rw [eK0,eK1,eK2] at hcr
 have hli:∀ b:Bool,(D == 0)=b→∀ w,EnvV w→_:=fun b hb w R=>dvLies hX hP b (by rw [eD];exact hb) w R
 obtain ⟨N,eN⟩:∃ v,-X1=v:=⟨_,rfl⟩
 have bN:N.natAbs≤20:=by rw [← eN,Int.natAbs_neg];exact bX.2.1
 have wN:IntKind.i64.wrap (-X1)=N:=by rw [eN];exact wrapS N (Nat.le_trans bN (by decide))
 obtain ⟨sp,esp⟩:∃ v,N*P0+X0*P1+0*P2=v:=⟨_,rfl⟩
 have bsp:sp.natAbs≤800:=by
   have q0:=mulS (a:=400) bN bP.1 (by decide)
   have q1:=mulS (a:=400) bX.1 bP.2.1 (by decide)
   omega
 obtain ⟨ss,ess⟩:∃ v,N*N+X0*X0+0*0=v:=⟨_,rfl⟩
 have bss:ss.natAbs≤800:=by
   have q0:=mulS (a:=400) bN bN (by decide)
   have q1:=mulS (a:=400) bX.1 bX.1 (by decide)
   omega
 obtain ⟨pp,epp⟩:∃ v,P0*P0+P1*P1+P2*P2=v:=⟨_,rfl⟩
 have bpp:pp.natAbs≤1200:=by
   have q0:=mulS (a:=400) bP.1 bP.1 (by decide)
   have q1:=mulS (a:=400) bP.2.1 bP.2.1 (by decide)
   have q2:=mulS (a:=400) bP.2.2 bP.2.2 (by decide)
   omega
 obtain ⟨spq,espq⟩:∃ v,sp*sp=v:=⟨_,rfl⟩
 have bspq:=mulS (a:=800*800) bsp bsp (Nat.le_refl _)
 rw [espq] at bspq
 have wspq:IntKind.i64.wrap (sp*sp)=spq:=by rw [espq];exact wrapS _ (Nat.le_trans bspq (by decide))
 obtain ⟨sq,esq⟩:∃ v,ss*pp=v:=⟨_,rfl⟩
 have bsq:=mulS (a:=800*1200) bss bpp (Nat.le_refl _)
 rw [esq] at bsq
 have wsq:IntKind.i64.wrap (ss*pp)=sq:=by rw [esq];exact wrapS _ (Nat.le_trans bsq (by decide))
 have hsp:∀ w,EnvV w→_:=fun w (_:EnvV w)=>ldot_any N X0 0 P0 P1 P2 (Nat.le_trans bN (by decide)) hX.b0 (by decide) hP.b0 hP.b1 hP.b2 w
 rw [esp] at hsp
 have hss:∀ w,EnvV w→_:=fun w (_:EnvV w)=>ldot_any N X0 0 N X0 0 (Nat.le_trans bN (by decide)) hX.b0 (by decide) (Nat.le_trans bN (by decide)) hX.b0 (by decide) w
 rw [ess] at hss
 have hpit:∀ v:¬ (X0=0∧X1=0),D=0→∀ w,EnvV w→_:=fun v q w R=>dvPitch hX hP v (by rw [eD];exact q) sp ss (by rw [← esp,← eN]) (by rw [← ess,← eN]) w R
 unfold SS at hpit
 rw [espq,epp,esq] at hpit
 have hquo:∀ v:¬ (X0=0∧X1=0),∀ w,EnvV w→_:=fun v w R=>lquot_any spq sq (Nat.le_trans bspq (by decide)) (Nat.le_trans bsq (by decide)) (by
   have q0:=S2_pos v
   have q1:=SS_pos hP.nz
   unfold SS at q1
   rw [epp] at q1
   have q2:0 < ss:=by
     have:N*N=X1*X1:=by rw [← eN];exact Int.neg_mul_neg X1 X1
     omega
   have:=Int.mul_pos q2 q1
   omega) w R
 by_cases zQQ:K0=0∧K1=0∧K2=0
 · by_cases qD:D=0
   · by_cases qX:X0=0
     · by_cases qY:X1=0
       · exact lplanes_dk2 i0 i1 i2 j0 j1 j2 k0 k1 k2 _ _ _ _ _ _ _ _ _ _ _ _ d e f _ _ _ _ _ _ _ _ _ _ (fun w R=>known16_any w R) cX (fun w _=>lzero_f zX w) cY (fun w _=>lzero_f zY w) cP (fun w _=>lzero_f zP w) ma mb ml (hli true (beq_iff_eq.2 qD)) (fun w R=>dvIntersect_d hX hY ⟨eK0.trans zQQ.1,eK1.trans zQQ.2.1,eK2.trans zQQ.2.2⟩ w R) (fun w R=>dvPitch_v hX hP ⟨qX,qY⟩ w R) (fun w _=>by have c:=ldot_any _ _ _ _ _ _ hX.b0 hX.b1 hX.b2 hP.b0 hP.b1 hP.b2 w;rw [eD] at c;exact c) hcr (fun w _=>lzero_t zQQ w) (beq_iff_eq.2 qD) (beq_iff_eq.2 qX) (beq_iff_eq.2 qY) w R
       · exact lplanes_dk1 i0 i1 i2 j0 j1 j2 k0 k1 k2 _ _ _ _ _ _ _ _ _ _ _ _ d e f _ _ _ _ _ _ _ _ _ _ _ _ _ _ _ _ _ (fun w R=>known16_any w R) cX (fun w _=>lzero_f zX w) cY (fun w _=>lzero_f zY w) cP (fun w _=>lzero_f zP w) ma mb ml (hli true (beq_iff_eq.2 qD)) (fun w R=>dvIntersect_d hX hY ⟨eK0.trans zQQ.1,eK1.trans zQQ.2.1,eK2.trans zQQ.2.2⟩ w R) (hpit (fun k=>qY k.2) qD) (fun w _=>by have c:=ldot_any _ _ _ _ _ _ hX.b0 hX.b1 hX.b2 hP.b0 hP.b1 hP.b2 w;rw [eD] at c;exact c) hcr (fun w _=>lzero_t zQQ w) hsp hss (fun w _=>by have c:=ldot_any _ _ _ _ _ _ hP.b0 hP.b1 hP.b2 hP.b0 hP.b1 hP.b2 w;rw [epp] at c;exact c) (hquo (fun k=>qY k.2)) wN wspq wsq (beq_iff_eq.2 qD) (beq_iff_eq.2 qX) (beq_eq_false_iff_ne.2 qY) w R
     · exact lplanes_dk0 i0 i1 i2 j0 j1 j2 k0 k1 k2 _ _ _ _ _ _ _ _ _ _ _ _ d e f _ _ _ _ _ _ _ _ _ _ _ _ _ _ _ _ _ (fun w R=>known16_any w R) cX (fun w _=>lzero_f zX w) cY (fun w _=>lzero_f zY w) cP (fun w _=>lzero_f zP w) ma mb ml (hli true (beq_iff_eq.2 qD)) (fun w R=>dvIntersect_d hX hY ⟨eK0.trans zQQ.1,eK1.trans zQQ.2.1,eK2.trans zQQ.2.2⟩ w R) (hpit (fun k=>qX k.1) qD) (fun w _=>by have c:=ldot_any _ _ _ _ _ _ hX.b0 hX.b1 hX.b2 hP.b0 hP.b1 hP.b2 w;rw [eD] at c;exact c) hcr (fun w _=>lzero_t zQQ w) hsp hss (fun w _=>by have c:=ldot_any _ _ _ _ _ _ hP.b0 hP.b1 hP.b2 hP.b0 hP.b1 hP.b2 w;rw [epp] at c;exact c) (hquo (fun k=>qX k.1)) wN wspq wsq (beq_iff_eq.2 qD) (beq_eq_false_iff_ne.2 qX) w R
   · by_cases qX:X0=0
     · by_cases qY:X1=0
       · exact lplanes_nk2 i0 i1 i2 j0 j1 j2 k0 k1 k2 _ _ _ _ _ _ _ _ _ _ _ _ d e f _ _ _ _ _ _ _ _ _ _ (fun w R=>known16_any w R) cX (fun w _=>lzero_f zX w) cY (fun w _=>lzero_f zY w) cP (fun w _=>lzero_f zP w) ma mb ml (hli false (beq_eq_false_iff_ne.2 qD)) (fun w R=>dvIntersect_d hX hY ⟨eK0.trans zQQ.1,eK1.trans zQQ.2.1,eK2.trans zQQ.2.2⟩ w R) (fun w R=>dvPitch_v hX hP ⟨qX,qY⟩ w R) (fun w _=>by have c:=ldot_any _ _ _ _ _ _ hX.b0 hX.b1 hX.b2 hP.b0 hP.b1 hP.b2 w;rw [eD] at c;exact c) hcr (fun w _=>lzero_t zQQ w) (beq_eq_false_iff_ne.2 qD) (beq_iff_eq.2 qX) (beq_iff_eq.2 qY) w R
       · exact lplanes_nk1 i0 i1 i2 j0 j1 j2 k0 k1 k2 _ _ _ _ _ _ _ _ _ _ _ _ d e f _ _ _ _ _ _ _ _ _ _ (fun w R=>known16_any w R) cX (fun w _=>lzero_f zX w) cY (fun w _=>lzero_f zY w) cP (fun w _=>lzero_f zP w) ma mb ml (hli false (beq_eq_false_iff_ne.2 qD)) (fun w R=>dvIntersect_d hX hY ⟨eK0.trans zQQ.1,eK1.trans zQQ.2.1,eK2.trans zQQ.2.2⟩ w R) (fun w R=>dvPitch_n hX hP (fun k=>qY k.2) (by rw [eD];exact qD) w R) (fun w _=>by have c:=ldot_any _ _ _ _ _ _ hX.b0 hX.b1 hX.b2 hP.b0 hP.b1 hP.b2 w;rw [eD] at c;exact c) hcr (fun w _=>lzero_t zQQ w) (beq_eq_false_iff_ne.2 qD) (beq_iff_eq.2 qX) (beq_eq_false_iff_ne.2 qY) w R
     · exact lplanes_nk0 i0 i1 i2 j0 j1 j2 k0 k1 k2 _ _ _ _ _ _ _ _ _ _ _ _ d e f _ _ _ _ _ _ _ _ _ _ (fun w R=>known16_any w R) cX (fun w _=>lzero_f zX w) cY (fun w _=>lzero_f zY w) cP (fun w _=>lzero_f zP w) ma mb ml (hli false (beq_eq_false_iff_ne.2 qD)) (fun w R=>dvIntersect_d hX hY ⟨eK0.trans zQQ.1,eK1.trans zQQ.2.1,eK2.trans zQQ.2.2⟩ w R) (fun w R=>dvPitch_n hX hP (fun k=>qX k.1) (by rw [eD];exact qD) w R) (fun w _=>by have c:=ldot_any _ _ _ _ _ _ hX.b0 hX.b1 hX.b2 hP.b0 hP.b1 hP.b2 w;rw [eD] at c;exact c) hcr (fun w _=>lzero_t zQQ w) (beq_eq_false_iff_ne.2 qD) (beq_eq_false_iff_ne.2 qX) w R
 · by_cases qD:D=0
   · by_cases qX:X0=0
     · by_cases qY:X1=0
       · exact lplanes_dm2 i0 i1 i2 j0 j1 j2 k0 k1 k2 _ _ _ _ _ _ _ _ _ _ _ _ _ _ _ d e f _ _ _ _ _ _ _ _ _ _ _ _ _ (fun w R=>known16_any w R) cX (fun w _=>lzero_f zX w) cY (fun w _=>lzero_f zY w) cP (fun w _=>lzero_f zP w) ma mb ml (hli true (beq_iff_eq.2 qD)) (fun w R=>dvIntersect hX hY K0 K1 K2 eK0 eK1 eK2 zQQ (by omega) (by omega) (by omega) w R) (fun w R=>dvPitch_v hX hP ⟨qX,qY⟩ w R) (fun w _=>by have c:=ldot_any _ _ _ _ _ _ hX.b0 hX.b1 hX.b2 hP.b0 hP.b1 hP.b2 w;rw [eD] at c;exact c) hcr (fun w _=>lzero_f zQQ w) (fun w _=>ldown_any K0 K1 K2 (by omega) (by omega) (by omega) (nz3I zQQ) w) (fun w R=>lof_any _ _ _ (Nat.le_trans (dn_bound _ _ _ bK0) (by decide)) (Nat.le_trans (dn_bound _ _ _ bK1) (by decide)) (Nat.le_trans (dn_bound _ _ _ bK2) (by decide)) w R) (beq_iff_eq.2 qD) (beq_iff_eq.2 qX) (beq_iff_eq.2 qY) w R
       · exact lplanes_dm1 i0 i1 i2 j0 j1 j2 k0 k1 k2 _ _ _ _ _ _ _ _ _ _ _ _ _ _ _ d e f _ _ _ _ _ _ _ _ _ _ _ _ _ _ _ _ _ _ _ _ (fun w R=>known16_any w R) cX (fun w _=>lzero_f zX w) cY (fun w _=>lzero_f zY w) cP (fun w _=>lzero_f zP w) ma mb ml (hli true (beq_iff_eq.2 qD)) (fun w R=>dvIntersect hX hY K0 K1 K2 eK0 eK1 eK2 zQQ (by omega) (by omega) (by omega) w R) (hpit (fun k=>qY k.2) qD) (fun w _=>by have c:=ldot_any _ _ _ _ _ _ hX.b0 hX.b1 hX.b2 hP.b0 hP.b1 hP.b2 w;rw [eD] at c;exact c) hcr (fun w _=>lzero_f zQQ w) (fun w _=>ldown_any K0 K1 K2 (by omega) (by omega) (by omega) (nz3I zQQ) w) (fun w R=>lof_any _ _ _ (Nat.le_trans (dn_bound _ _ _ bK0) (by decide)) (Nat.le_trans (dn_bound _ _ _ bK1) (by decide)) (Nat.le_trans (dn_bound _ _ _ bK2) (by decide)) w R) hsp hss (fun w _=>by have c:=ldot_any _ _ _ _ _ _ hP.b0 hP.b1 hP.b2 hP.b0 hP.b1 hP.b2 w;rw [epp] at c;exact c) (hquo (fun k=>qY k.2)) wN wspq wsq (beq_iff_eq.2 qD) (beq_iff_eq.2 qX) (beq_eq_false_iff_ne.2 qY) w R
     · exact lplanes_dm0 i0 i1 i2 j0 j1 j2 k0 k1 k2 _ _ _ _ _ _ _ _ _ _ _ _ _ _ _ d e f _ _ _ _ _ _ _ _ _ _ _ _ _ _ _ _ _ _ _ _ (fun w R=>known16_any w R) cX (fun w _=>lzero_f zX w) cY (fun w _=>lzero_f zY w) cP (fun w _=>lzero_f zP w) ma mb ml (hli true (beq_iff_eq.2 qD)) (fun w R=>dvIntersect hX hY K0 K1 K2 eK0 eK1 eK2 zQQ (by omega) (by omega) (by omega) w R) (hpit (fun k=>qX k.1) qD) (fun w _=>by have c:=ldot_any _ _ _ _ _ _ hX.b0 hX.b1 hX.b2 hP.b0 hP.b1 hP.b2 w;rw [eD] at c;exact c) hcr (fun w _=>lzero_f zQQ w) (fun w _=>ldown_any K0 K1 K2 (by omega) (by omega) (by omega) (nz3I zQQ) w) (fun w R=>lof_any _ _ _ (Nat.le_trans (dn_bound _ _ _ bK0) (by decide)) (Nat.le_trans (dn_bound _ _ _ bK1) (by decide)) (Nat.le_trans (dn_bound _ _ _ bK2) (by decide)) w R) hsp hss (fun w _=>by have c:=ldot_any _ _ _ _ _ _ hP.b0 hP.b1 hP.b2 hP.b0 hP.b1 hP.b2 w;rw [epp] at c;exact c) (hquo (fun k=>qX k.1)) wN wspq wsq (beq_iff_eq.2 qD) (beq_eq_false_iff_ne.2 qX) w R
   · by_cases qX:X0=0
     · by_cases qY:X1=0
       · exact lplanes_nm2 i0 i1 i2 j0 j1 j2 k0 k1 k2 _ _ _ _ _ _ _ _ _ _ _ _ _ _ _ d e f _ _ _ _ _ _ _ _ _ _ _ _ _ (fun w R=>known16_any w R) cX (fun w _=>lzero_f zX w) cY (fun w _=>lzero_f zY w) cP (fun w _=>lzero_f zP w) ma mb ml (hli false (beq_eq_false_iff_ne.2 qD)) (fun w R=>dvIntersect hX hY K0 K1 K2 eK0 eK1 eK2 zQQ (by omega) (by omega) (by omega) w R) (fun w R=>dvPitch_v hX hP ⟨qX,qY⟩ w R) (fun w _=>by have c:=ldot_any _ _ _ _ _ _ hX.b0 hX.b1 hX.b2 hP.b0 hP.b1 hP.b2 w;rw [eD] at c;exact c) hcr (fun w _=>lzero_f zQQ w) (fun w _=>ldown_any K0 K1 K2 (by omega) (by omega) (by omega) (nz3I zQQ) w) (fun w R=>lof_any _ _ _ (Nat.le_trans (dn_bound _ _ _ bK0) (by decide)) (Nat.le_trans (dn_bound _ _ _ bK1) (by decide)) (Nat.le_trans (dn_bound _ _ _ bK2) (by decide)) w R) (beq_eq_false_iff_ne.2 qD) (beq_iff_eq.2 qX) (beq_iff_eq.2 qY) w R
       · exact lplanes_nm1 i0 i1 i2 j0 j1 j2 k0 k1 k2 _ _ _ _ _ _ _ _ _ _ _ _ _ _ _ d e f _ _ _ _ _ _ _ _ _ _ _ _ _ (fun w R=>known16_any w R) cX (fun w _=>lzero_f zX w) cY (fun w _=>lzero_f zY w) cP (fun w _=>lzero_f zP w) ma mb ml (hli false (beq_eq_false_iff_ne.2 qD)) (fun w R=>dvIntersect hX hY K0 K1 K2 eK0 eK1 eK2 zQQ (by omega) (by omega) (by omega) w R) (fun w R=>dvPitch_n hX hP (fun k=>qY k.2) (by rw [eD];exact qD) w R) (fun w _=>by have c:=ldot_any _ _ _ _ _ _ hX.b0 hX.b1 hX.b2 hP.b0 hP.b1 hP.b2 w;rw [eD] at c;exact c) hcr (fun w _=>lzero_f zQQ w) (fun w _=>ldown_any K0 K1 K2 (by omega) (by omega) (by omega) (nz3I zQQ) w) (fun w R=>lof_any _ _ _ (Nat.le_trans (dn_bound _ _ _ bK0) (by decide)) (Nat.le_trans (dn_bound _ _ _ bK1) (by decide)) (Nat.le_trans (dn_bound _ _ _ bK2) (by decide)) w R) (beq_eq_false_iff_ne.2 qD) (beq_iff_eq.2 qX) (beq_eq_false_iff_ne.2 qY) w R
     · exact lplanes_nm0 i0 i1 i2 j0 j1 j2 k0 k1 k2 _ _ _ _ _ _ _ _ _ _ _ _ _ _ _ d e f _ _ _ _ _ _ _ _ _ _ _ _ _ (fun w R=>known16_any w R) cX (fun w _=>lzero_f zX w) cY (fun w _=>lzero_f zY w) cP (fun w _=>lzero_f zP w) ma mb ml (hli false (beq_eq_false_iff_ne.2 qD)) (fun w R=>dvIntersect hX hY K0 K1 K2 eK0 eK1 eK2 zQQ (by omega) (by omega) (by omega) w R) (fun w R=>dvPitch_n hX hP (fun k=>qX k.1) (by rw [eD];exact qD) w R) (fun w _=>by have c:=ldot_any _ _ _ _ _ _ hX.b0 hX.b1 hX.b2 hP.b0 hP.b1 hP.b2 w;rw [eD] at c;exact c) hcr (fun w _=>lzero_f zQQ w) (fun w _=>ldown_any K0 K1 K2 (by omega) (by omega) (by omega) (nz3I zQQ) w) (fun w R=>lof_any _ _ _ (Nat.le_trans (dn_bound _ _ _ bK0) (by decide)) (Nat.le_trans (dn_bound _ _ _ bK1) (by decide)) (Nat.le_trans (dn_bound _ _ _ bK2) (by decide)) w R) (beq_eq_false_iff_ne.2 qD) (beq_eq_false_iff_ne.2 qX) w R
end Go.Proofs.YtpiiclmkbplkhaaGreatDoor.Kl
