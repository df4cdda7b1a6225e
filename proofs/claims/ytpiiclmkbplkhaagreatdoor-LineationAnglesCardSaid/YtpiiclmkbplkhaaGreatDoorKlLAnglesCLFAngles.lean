import Derived.Test.YtpiiclmkbplkhaaGreatDoorKlLAnglesCLVZ
import Derived.Test.YtpiiclmkbplkhaaGreatDoorKlLAnglesCLawLAngles
namespace Go.Proofs.YtpiiclmkbplkhaaGreatDoor.Kl
open Go Go.RowKit
set_option maxRecDepth 100000
set_option maxHeartbeats 8000000
theorem lawAngles (i0 i1 i2 d j0 j1 j2 e k0 k1 k2 f l0 l1 l2 g:Int) (bi0 : -128≤i0∧i0≤127) (bi1 : -128≤i1∧i1≤127) (bi2 : -128≤i2∧i2≤127) (bi3:0≤d∧d≤255) (bj0 : -128≤j0∧j0≤127) (bj1 : -128≤j1∧j1≤127) (bj2 : -128≤j2∧j2≤127) (bj3:0≤e∧e≤255) (bk0 : -128≤k0∧k0≤127) (bk1 : -128≤k1∧k1≤127) (bk2 : -128≤k2∧k2≤127) (bk3:0≤f∧f≤255) (bl0 : -128≤l0∧l0≤127) (bl1 : -128≤l1∧l1≤127) (bl2 : -128≤l2∧l2≤127) (bl3:0≤g∧g≤255) (w:World) (R:EnvV w) :
   Calls Tryz.prog 7 #[.agg #[.int .i8 i0,.int .i8 i1,.int .i8 i2,.int .u8 d],.agg #[.int .i8 j0,.int .i8 j1,.int .i8 j2,.int .u8 e],.agg #[.int .i8 k0,.int .i8 k1,.int .i8 k2,.int .u8 f,.int .i8 l0,.int .i8 l1,.int .i8 l2,.int .u8 g]] w fun e_ w' => e_ = .returned (.bool true)∧Below w.heap.size w w':=by
 obtain ⟨X0,X1,X2,kX,bX,pX,rX,cX,ma⟩:=descr i0 i1 i2 d bi0 bi1 bi2 bi3
 obtain ⟨Y0,Y1,Y2,kY,bY,pY,rY,cY,mb⟩:=descr j0 j1 j2 e bj0 bj1 bj2 bj3
 obtain ⟨P0,P1,P2,kP,bP,pP,rP,cP,mc⟩:=descr k0 k1 k2 f bk0 bk1 bk2 bk3
 obtain ⟨Q0,Q1,Q2,kQ,bQ,pQ,rQ,cQ,md⟩:=descr l0 l1 l2 g bl0 bl1 bl2 bl3
 by_cases zX:X0=0∧X1=0∧X2=0
 · exact langles_z0 i0 i1 i2 j0 j1 j2 k0 k1 k2 l0 l1 l2 _ _ _ d e f g (fun w R=>known16_any w R) cX (fun w _=>lzero_t zX w) w R
 by_cases zY:Y0=0∧Y1=0∧Y2=0
 · exact langles_z1 i0 i1 i2 j0 j1 j2 k0 k1 k2 l0 l1 l2 _ _ _ _ _ _ d e f g (fun w R=>known16_any w R) cX (fun w _=>lzero_f zX w) cY (fun w _=>lzero_t zY w) w R
 by_cases zP:P0=0∧P1=0∧P2=0
 · exact langles_z2 i0 i1 i2 j0 j1 j2 k0 k1 k2 l0 l1 l2 _ _ _ _ _ _ _ _ _ d e f g (fun w R=>known16_any w R) cX (fun w _=>lzero_f zX w) cY (fun w _=>lzero_f zY w) cP (fun w _=>lzero_t zP w) w R
 by_cases zQ:Q0=0∧Q1=0∧Q2=0
 · exact langles_z3 i0 i1 i2 j0 j1 j2 k0 k1 k2 l0 l1 l2 _ _ _ _ _ _ _ _ _ _ _ _ d e f g (fun w R=>known16_any w R) cX (fun w _=>lzero_f zX w) cY (fun w _=>lzero_f zY w) cP (fun w _=>lzero_f zP w) cQ (fun w _=>lzero_t zQ w) w R
 have hX:=DV_of bX pX rX zX
 have hY:=DV_of bY pY rY zY
 have hP:=DV_of bP pP rP zP
 have hQ:=DV_of bQ pQ rQ zQ
 obtain ⟨dd,edd⟩:∃ v,X0*Y0+X1*Y1+X2*Y2=v:=⟨_,rfl⟩
 have bdd:dd.natAbs≤1200:=by
   have q0:=mulS (a:=400) bX.1 bY.1 (by decide)
   have q1:=mulS (a:=400) bX.2.1 bY.2.1 (by decide)
   have q2:=mulS (a:=400) bX.2.2 bY.2.2 (by decide)
   omega
 obtain ⟨m,em⟩:∃ v,X0*X0+X1*X1+X2*X2=v:=⟨_,rfl⟩
 have bm:m.natAbs≤1200:=by
   have q0:=mulS (a:=400) bX.1 bX.1 (by decide)
   have q1:=mulS (a:=400) bX.2.1 bX.2.1 (by decide)
   have q2:=mulS (a:=400) bX.2.2 bX.2.2 (by decide)
   omega
 obtain ⟨nn,enn⟩:∃ v,Y0*Y0+Y1*Y1+Y2*Y2=v:=⟨_,rfl⟩
 have bnn:nn.natAbs≤1200:=by
   have q0:=mulS (a:=400) bY.1 bY.1 (by decide)
   have q1:=mulS (a:=400) bY.2.1 bY.2.1 (by decide)
   have q2:=mulS (a:=400) bY.2.2 bY.2.2 (by decide)
   omega
 obtain ⟨d2,ed2⟩:∃ v,dd*dd=v:=⟨_,rfl⟩
 have bd2:=mulS (a:=1200*1200) bdd bdd (Nat.le_refl _)
 rw [ed2] at bd2
 have wd2:IntKind.i64.wrap (dd*dd)=d2:=by rw [ed2];exact wrapS _ (Nat.le_trans bd2 (by decide))
 obtain ⟨sq,esq⟩:∃ v,m*nn=v:=⟨_,rfl⟩
 have bsq:=mulS (a:=1200*1200) bm bnn (Nat.le_refl _)
 rw [esq] at bsq
 have wsq:IntKind.i64.wrap (m*nn)=sq:=by rw [esq];exact wrapS _ (Nat.le_trans bsq (by decide))
 obtain ⟨ee,eee⟩:∃ v,P0*Q0+P1*Q1+P2*Q2=v:=⟨_,rfl⟩
 have bee:ee.natAbs≤1200:=by
   have q0:=mulS (a:=400) bP.1 bQ.1 (by decide)
   have q1:=mulS (a:=400) bP.2.1 bQ.2.1 (by decide)
   have q2:=mulS (a:=400) bP.2.2 bQ.2.2 (by decide)
   omega
 obtain ⟨o,eo⟩:∃ v,P0*P0+P1*P1+P2*P2=v:=⟨_,rfl⟩
 have bo:o.natAbs≤1200:=by
   have q0:=mulS (a:=400) bP.1 bP.1 (by decide)
   have q1:=mulS (a:=400) bP.2.1 bP.2.1 (by decide)
   have q2:=mulS (a:=400) bP.2.2 bP.2.2 (by decide)
   omega
 obtain ⟨u,eu⟩:∃ v,Q0*Q0+Q1*Q1+Q2*Q2=v:=⟨_,rfl⟩
 have bu:u.natAbs≤1200:=by
   have q0:=mulS (a:=400) bQ.1 bQ.1 (by decide)
   have q1:=mulS (a:=400) bQ.2.1 bQ.2.1 (by decide)
   have q2:=mulS (a:=400) bQ.2.2 bQ.2.2 (by decide)
   omega
 obtain ⟨e2,ee2⟩:∃ v,ee*ee=v:=⟨_,rfl⟩
 have be2:=mulS (a:=1200*1200) bee bee (Nat.le_refl _)
 rw [ee2] at be2
 have we2:IntKind.i64.wrap (ee*ee)=e2:=by rw [ee2];exact wrapS _ (Nat.le_trans be2 (by decide))
 obtain ⟨sr,esr⟩:∃ v,o*u=v:=⟨_,rfl⟩
 have bsr:=mulS (a:=1200*1200) bo bu (Nat.le_refl _)
 rw [esr] at bsr
 have wsr:IntKind.i64.wrap (o*u)=sr:=by rw [esr];exact wrapS _ (Nat.le_trans bsr (by decide))
 have s0:sq≠0:=by have:=Int.mul_pos (SS_pos hX.nz) (SS_pos hY.nz);unfold SS at this;rw [em,enn,esq] at this;omega
 have s1:sr≠0:=by have:=Int.mul_pos (SS_pos hP.nz) (SS_pos hQ.nz);unfold SS at this;rw [eo,eu,esr] at this;omega
 have A1:∀ w,EnvV w→_:=fun w R=>dvAngle hX hY w R
 have A2:∀ w,EnvV w→_:=fun w R=>dvAngle hP hQ w R
 have K1:∀ w,EnvV w→_:=fun w R=>dvCos hX hY w R
 have K2:∀ w,EnvV w→_:=fun w R=>dvCos hP hQ w R
 unfold SS at A1 A2 K1 K2
 rw [edd,ed2,em,enn,esq] at A1 K1
 rw [eee,ee2,eo,eu,esr] at A2 K2
 have cc:∀ w,EnvV w→_:=fun w R=>rcompare_any (Rat.divInt e2 sr) (Rat.divInt d2 sq) ((RL_quot e2 sr (Nat.le_trans be2 (by decide)) (Nat.le_trans bsr (by decide)) s1).mono (by decide)) ((RL_quot d2 sq (Nat.le_trans bd2 (by decide)) (Nat.le_trans bsq (by decide)) s0).mono (by decide)) w R.toEnvR
 have A3:∀ w,EnvV w→_:=fun w R=>lCmpAngles_w _ _ _ _ _ _ _ _ _ _ _ _ _ _ _ (dvCheck hX) (dvCheck hY) (dvCheck hP) (dvCheck hQ) K2 K1 cc w R
 exact langles_1 i0 i1 i2 j0 j1 j2 k0 k1 k2 l0 l1 l2 _ _ _ _ _ _ _ _ _ _ _ _ d e f g _ _ _ _ _ _ _ _ _ _ _ _ _ _ _ _ _ _ _ _ (fun w R=>known16_any w R) cX (fun w _=>lzero_f zX w) cY (fun w _=>lzero_f zY w) cP (fun w _=>lzero_f zP w) cQ (fun w _=>lzero_f zQ w) ma mb mc md A1 A2 A3 (fun w _=>by have c:=ldot_any _ _ _ _ _ _ hX.b0 hX.b1 hX.b2 hY.b0 hY.b1 hY.b2 w;rw [edd] at c;exact c) (fun w _=>by have c:=ldot_any _ _ _ _ _ _ hX.b0 hX.b1 hX.b2 hX.b0 hX.b1 hX.b2 w;rw [em] at c;exact c) (fun w _=>by have c:=ldot_any _ _ _ _ _ _ hY.b0 hY.b1 hY.b2 hY.b0 hY.b1 hY.b2 w;rw [enn] at c;exact c) (fun w R=>lquot_any d2 sq (Nat.le_trans bd2 (by decide)) (Nat.le_trans bsq (by decide)) s0 w R) cc wd2 wsq w R
end Go.Proofs.YtpiiclmkbplkhaaGreatDoor.Kl
