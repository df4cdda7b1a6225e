import Derived.Test.YtpiiclmkbplkhaaGreatDoorKlLLimbsCLI
import Derived.Test.YtpiiclmkbplkhaaGreatDoorKlLLimbsCLawLLimbs
namespace Go.Proofs.YtpiiclmkbplkhaaGreatDoor.Kl
open Go Go.RowKit
set_option maxRecDepth 100000
set_option maxHeartbeats 8000000
theorem DV.neg {k:Rat} {X Y Z:Int} (h:DV k X Y Z):DV k (-X) (-Y) (-Z):=by
 have e:∀ V:Int,k*((-V:Int):Rat) = -(k*(V:Rat)):=fun V=>by rw [Rat.intCast_neg];grind
 exact ⟨h.kp,by rw [e];exact RN_neg h.n0,by rw [e];exact RN_neg h.n1,by rw [e];exact RN_neg h.n2,by have:=h.b0;omega,by have:=h.b1;omega,by have:=h.b2;omega,by have:=h.nz;omega⟩
theorem neg_txt {k:Rat} (V:Int) (r:RN (k*(V:Rat)) 6 3) (w:World) (R:EnvV w) :
   Calls Tryz.prog 39 #[.string (ratB (k*(V:Rat)))] w (Ret w (.string (ratB (k*((-V:Int):Rat))))):=by
 have c:=rneg_any (k*(V:Rat)) (r.rl) w R.toEnvR
 rwa [show -(k*(V:Rat))=k*((-V:Int):Rat) by rw [Rat.intCast_neg];grind] at c
theorem cls_facts (d B:Int) (hB:0 < B):(clsI d B=1∧clsI (-d) B=4)∨(clsI d B=1∧clsI (-d) B=5)∨(clsI d B=5∧clsI (-d) B=1)∨clsI d B=2∨clsI d B=3∨clsI d B=4:=by
 unfold clsI
 rw [Int.neg_mul_neg]
 have sq:d≠0→0 < d*d:=fun h=>by have:=SS_pos (X:=d) (Y:=0) (Z:=0) (Or.inl h);unfold SS at this;omega
 have z:d=0→d*d=0:=fun h=>by rw [h];rfl
 by_cases c:d=0
 · have:=z c;(repeat' split) <;> omega
 · have:=sq c;(repeat' split) <;> omega
theorem orth {X0 X1 X2 Y0 Y1 Y2 G W0 W1 W2:Int} (hG:G≠0) (e0:X1*Y2 - X2*Y1=G*W0) (e1:X2*Y0 - X0*Y2=G*W1) (e2:X0*Y1 - X1*Y0=G*W2):X0*W0+X1*W1+X2*W2=0∧Y0*W0+Y1*W1+Y2*W2=0:=by
 have a:G*(X0*W0+X1*W1+X2*W2)=0:=by
   have:G*(X0*W0+X1*W1+X2*W2)=X0*(G*W0)+X1*(G*W1)+X2*(G*W2):=by grind
   rw [this,← e0,← e1,← e2];grind
 have b:G*(Y0*W0+Y1*W1+Y2*W2)=0:=by
   have:G*(Y0*W0+Y1*W1+Y2*W2)=Y0*(G*W0)+Y1*(G*W1)+Y2*(G*W2):=by grind
   rw [this,← e0,← e1,← e2];grind
 exact ⟨(Int.mul_eq_zero.1 a).resolve_left hG,(Int.mul_eq_zero.1 b).resolve_left hG⟩
theorem lawLimbs (i0 i1 i2 d j0 j1 j2 e:Int) (bi0 : -128≤i0∧i0≤127) (bi1 : -128≤i1∧i1≤127) (bi2 : -128≤i2∧i2≤127) (bi3:0≤d∧d≤255) (bj0 : -128≤j0∧j0≤127) (bj1 : -128≤j1∧j1≤127) (bj2 : -128≤j2∧j2≤127) (bj3:0≤e∧e≤255) (w:World) (R:EnvV w) :
   Calls Tryz.prog 11 #[.agg #[.int .i8 i0,.int .i8 i1,.int .i8 i2,.int .u8 d],.agg #[.int .i8 j0,.int .i8 j1,.int .i8 j2,.int .u8 e]] w fun e_ w' => e_ = .returned (.bool true)∧Below w.heap.size w w':=by
 obtain ⟨X0,X1,X2,kX,bX,pX,rX,ca,ma⟩:=descr i0 i1 i2 d bi0 bi1 bi2 bi3
 obtain ⟨Y0,Y1,Y2,kY,bY,pY,rY,cb,mb⟩:=descr j0 j1 j2 e bj0 bj1 bj2 bj3
 by_cases zX:X0=0∧X1=0∧X2=0
 · exact llimbs_za i0 i1 i2 j0 j1 j2 _ _ _ d e (fun w R=>known16_any w R) ca (fun w _=>lzero_t zX w) w R
 by_cases zY:Y0=0∧Y1=0∧Y2=0
 · exact llimbs_zb i0 i1 i2 j0 j1 j2 _ _ _ _ _ _ d e (fun w R=>known16_any w R) ca (fun w _=>lzero_f zX w) cb (fun w _=>lzero_t zY w) w R
 have h:=DV_of bX pX rX zX
 have g:=DV_of bY pY rY zY
 obtain ⟨d',ed'⟩:∃ v,X0*Y0+X1*Y1+X2*Y2=v:=⟨_,rfl⟩
 have bd':d'.natAbs≤1200:=by
   have q0:=mulS (a:=400) bX.1 bY.1 (by decide)
   have q1:=mulS (a:=400) bX.2.1 bY.2.1 (by decide)
   have q2:=mulS (a:=400) bX.2.2 bY.2.2 (by decide)
   omega
 obtain ⟨m',em'⟩:∃ v,X0*X0+X1*X1+X2*X2=v:=⟨_,rfl⟩
 have bm':m'.natAbs≤1200:=by
   have q0:=mulS (a:=400) bX.1 bX.1 (by decide)
   have q1:=mulS (a:=400) bX.2.1 bX.2.1 (by decide)
   have q2:=mulS (a:=400) bX.2.2 bX.2.2 (by decide)
   omega
 obtain ⟨n',en'⟩:∃ v,Y0*Y0+Y1*Y1+Y2*Y2=v:=⟨_,rfl⟩
 have bn':n'.natAbs≤1200:=by
   have q0:=mulS (a:=400) bY.1 bY.1 (by decide)
   have q1:=mulS (a:=400) bY.2.1 bY.2.1 (by decide)
   have q2:=mulS (a:=400) bY.2.2 bY.2.2 (by decide)
   omega
 obtain ⟨B',eB'⟩:∃ v,m'*n'=v:=⟨_,rfl⟩
 have bB':=mulS (a:=1200*1200) bm' bn' (Nat.le_refl _)
 rw [eB'] at bB'
 have wB':IntKind.i64.wrap (m'*n')=B':=by rw [eB'];exact wrapS _ (Nat.le_trans bB' (by decide))
 have hB:SS X0 X1 X2*SS Y0 Y1 Y2=B':=by unfold SS;rw [em',en',eB']
 have nX:SS (-X0) (-X1) (-X2)=SS X0 X1 X2:=by unfold SS;rw [Int.neg_mul_neg,Int.neg_mul_neg,Int.neg_mul_neg]
 have nY:SS (-Y0) (-Y1) (-Y2)=SS Y0 Y1 Y2:=by unfold SS;rw [Int.neg_mul_neg,Int.neg_mul_neg,Int.neg_mul_neg]
 have Bp:0 < B':=by rw [← hB];exact Int.mul_pos (SS_pos h.nz) (SS_pos g.nz)
 have bd1:d'.natAbs≤10000000:=by omega
 have bd2:(-d').natAbs≤10000000:=by omega
 have bB2:B'.natAbs≤100000000000000:=Nat.le_trans bB' (by decide)
 have h':=h.neg
 have g':=g.neg
 have I1:∀ n:Int,clsI d' B'=n→∀ w,EnvV w→_:=fun n hn w R=>dvInter h g d' B' n ed' hB bd1 bB2 hn w R
 have I2:∀ n:Int,clsI d' B'=n→∀ w,EnvV w→_:=fun n hn w R=>dvInter g h d' B' n (by rw [← ed'];grind) (by rw [Int.mul_comm];exact hB) bd1 bB2 hn w R
 have I3:∀ n:Int,clsI d' B'=n→∀ w,EnvV w→_:=fun n hn w R=>dvInter h' g' d' B' n (by rw [← ed',Int.neg_mul_neg,Int.neg_mul_neg,Int.neg_mul_neg]) (by rw [nX,nY];exact hB) bd1 bB2 hn w R
 have I4:∀ n:Int,clsI (-d') B'=n→∀ w,EnvV w→_:=fun n hn w R=>dvInter h g' (-d') B' n (by rw [← ed'];grind) (by rw [nY];exact hB) bd2 bB2 hn w R
 have an:∀ w,EnvV w→_:=fun w R=>dvAngle h h' w R
 have e1':(X0 * -X0+X1 * -X1+X2 * -X2)*(X0 * -X0+X1 * -X1+X2 * -X2)=1*(SS X0 X1 X2*SS X0 X1 X2):=by unfold SS;grind
 have e2':SS X0 X1 X2*SS X0 X1 X2=1*(SS X0 X1 X2*SS X0 X1 X2):=(Int.one_mul _).symm
 have sp0:SS X0 X1 X2*SS X0 X1 X2≠0:=by have:=Int.mul_pos (SS_pos h.nz) (SS_pos h.nz);omega
 have eone:Rat.divInt ((X0 * -X0+X1 * -X1+X2 * -X2)*(X0 * -X0+X1 * -X1+X2 * -X2)) (SS X0 X1 X2*SS (-X0) (-X1) (-X2))=1:=by
   rw [nX,e1',Int.one_mul,Rat.divInt_eq_div,Rat.div_def]
   exact Rat.mul_inv_cancel _ (fun e=>sp0 (by exact_mod_cast e))
 rw [eone,rb_1] at an
 have n0:∀ w,EnvV w→_:=fun w R=>neg_txt X0 h.n0 w R
 have n1:∀ w,EnvV w→_:=fun w R=>neg_txt X1 h.n1 w R
 have n2:∀ w,EnvV w→_:=fun w R=>neg_txt X2 h.n2 w R
 have o0:∀ w,EnvV w→_:=fun w R=>neg_txt Y0 g.n0 w R
 have o1:∀ w,EnvV w→_:=fun w R=>neg_txt Y1 g.n1 w R
 have o2:∀ w,EnvV w→_:=fun w R=>neg_txt Y2 g.n2 w R
 obtain ⟨K0,eK0⟩:∃ v,X1*Y2 - X2*Y1=v:=⟨_,rfl⟩
 have bK0:K0.natAbs≤800:=by
   have q0:=mulS (a:=400) bX.2.1 bY.2.2 (by decide)
   have q1:=mulS (a:=400) bX.2.2 bY.2.1 (by decide)
   omega
 obtain ⟨K1,eK1⟩:∃ v,X2*Y0 - X0*Y2=v:=⟨_,rfl⟩
 have bK1:K1.natAbs≤800:=by
   have q0:=mulS (a:=400) bX.2.2 bY.1 (by decide)
   have q1:=mulS (a:=400) bX.1 bY.2.2 (by decide)
   omega
 obtain ⟨K2,eK2⟩:∃ v,X0*Y1 - X1*Y0=v:=⟨_,rfl⟩
 have bK2:K2.natAbs≤800:=by
   have q0:=mulS (a:=400) bX.1 bY.2.1 (by decide)
   have q1:=mulS (a:=400) bX.2.1 bY.1 (by decide)
   omega
 obtain ⟨e_,he_⟩:∃ v,v=e:=⟨_,rfl⟩
 subst he_
 by_cases zQQ:K0=0∧K1=0∧K2=0
 · have it:∀ w,EnvV w→_:=fun w R=>dvIntersect_d h g ⟨eK0.trans zQQ.1,eK1.trans zQQ.2.1,eK2.trans zQQ.2.2⟩ w R
   have sm:∀ w,EnvV w→_:=fun w R=>dvSame_t h g ⟨eK0.trans zQQ.1,eK1.trans zQQ.2.1,eK2.trans zQQ.2.2⟩ w R
   rcases cls_facts d' B' Bp with ⟨c,e⟩ | ⟨c,e⟩ | ⟨c,e⟩ | c | c | c
   · exact llimbs_14d i0 i1 i2 j0 j1 j2 _ _ _ _ _ _ d e_ _ _ _ _ _ _ _ _ _ _ _ _ (fun w R=>known16_any w R) ca (fun w _=>lzero_f zX w) cb (fun w _=>lzero_f zY w) ma mb o0 n0 o1 n1 o2 n2 (I1 1 c) (I2 1 c) (I3 1 c) (I4 4 e) an it sm w R
   · exact llimbs_15d i0 i1 i2 j0 j1 j2 _ _ _ _ _ _ d e_ _ _ _ _ _ _ _ _ _ _ _ _ (fun w R=>known16_any w R) ca (fun w _=>lzero_f zX w) cb (fun w _=>lzero_f zY w) ma mb o0 n0 o1 n1 o2 n2 (I1 1 c) (I2 1 c) (I3 1 c) (I4 5 e) an it sm w R
   · exact llimbs_51d i0 i1 i2 j0 j1 j2 _ _ _ _ _ _ d e_ _ _ _ _ _ _ _ _ _ _ _ _ (fun w R=>known16_any w R) ca (fun w _=>lzero_f zX w) cb (fun w _=>lzero_f zY w) ma mb o0 n0 o1 n1 o2 n2 (I1 5 c) (I2 5 c) (I3 5 c) (I4 1 e) an it sm w R
   · exact llimbs_2d i0 i1 i2 j0 j1 j2 _ _ _ _ _ _ d e_ _ _ _ _ _ _ _ _ _ _ _ _ _ (fun w R=>known16_any w R) ca (fun w _=>lzero_f zX w) cb (fun w _=>lzero_f zY w) ma mb o0 n0 o1 n1 o2 n2 (I1 2 c) (I2 2 c) (I3 2 c) (I4 _ rfl) an it sm w R
   · exact llimbs_3d i0 i1 i2 j0 j1 j2 _ _ _ _ _ _ d e_ _ _ _ _ _ _ _ _ _ _ _ _ _ (fun w R=>known16_any w R) ca (fun w _=>lzero_f zX w) cb (fun w _=>lzero_f zY w) ma mb o0 n0 o1 n1 o2 n2 (I1 3 c) (I2 3 c) (I3 3 c) (I4 _ rfl) an it sm w R
   · exact llimbs_4d i0 i1 i2 j0 j1 j2 _ _ _ _ _ _ d e_ _ _ _ _ _ _ _ _ _ _ _ _ _ (fun w R=>known16_any w R) ca (fun w _=>lzero_f zX w) cb (fun w _=>lzero_f zY w) ma mb o0 n0 o1 n1 o2 n2 (I1 4 c) (I2 4 c) (I3 4 c) (I4 _ rfl) an it sm w R
 · have it:∀ w,EnvV w→_:=fun w R=>dvIntersect h g K0 K1 K2 eK0 eK1 eK2 zQQ (by omega) (by omega) (by omega) w R
   obtain ⟨G,G0,g0,g1,g2⟩:=tdiv0 (nz3I zQQ)
   have nzp:=nz_of (nz3I zQQ) g0 g1 g2
   have f:=DV_one (dn_bound K0 _ 1000 (by omega)) (dn_bound K1 _ 1000 (by omega)) (dn_bound K2 _ 1000 (by omega)) nzp
   have oo:=orth G0 (eK0.trans g0) (eK1.trans g1) (eK2.trans g2)
   have l1:∀ w,EnvV w→_:=fun w R=>dvLies h f true (beq_iff_eq.2 oo.1) w R
   have l2:∀ w,EnvV w→_:=fun w R=>dvLies g f true (beq_iff_eq.2 oo.2) w R
   rw [one_txt,one_txt,one_txt] at l1 l2
   rcases cls_facts d' B' Bp with ⟨c,e⟩ | ⟨c,e⟩ | ⟨c,e⟩ | c | c | c
   · exact llimbs_14m i0 i1 i2 j0 j1 j2 _ _ _ _ _ _ d e_ _ _ _ _ _ _ _ _ _ _ _ _ _ _ _ (fun w R=>known16_any w R) ca (fun w _=>lzero_f zX w) cb (fun w _=>lzero_f zY w) ma mb o0 n0 o1 n1 o2 n2 (I1 1 c) (I2 1 c) (I3 1 c) (I4 4 e) an it l1 l2 w R
   · exact llimbs_15m i0 i1 i2 j0 j1 j2 _ _ _ _ _ _ d e_ _ _ _ _ _ _ _ _ _ _ _ _ _ _ _ (fun w R=>known16_any w R) ca (fun w _=>lzero_f zX w) cb (fun w _=>lzero_f zY w) ma mb o0 n0 o1 n1 o2 n2 (I1 1 c) (I2 1 c) (I3 1 c) (I4 5 e) an it l1 l2 w R
   · exact llimbs_51m i0 i1 i2 j0 j1 j2 _ _ _ _ _ _ d e_ _ _ _ _ _ _ _ _ _ _ _ _ _ _ _ (fun w R=>known16_any w R) ca (fun w _=>lzero_f zX w) cb (fun w _=>lzero_f zY w) ma mb o0 n0 o1 n1 o2 n2 (I1 5 c) (I2 5 c) (I3 5 c) (I4 1 e) an it l1 l2 w R
   · exact llimbs_2m i0 i1 i2 j0 j1 j2 _ _ _ _ _ _ d e_ _ _ _ _ _ _ _ _ _ _ _ _ _ _ _ _ (fun w R=>known16_any w R) ca (fun w _=>lzero_f zX w) cb (fun w _=>lzero_f zY w) ma mb o0 n0 o1 n1 o2 n2 (I1 2 c) (I2 2 c) (I3 2 c) (I4 _ rfl) an it l1 l2 w R
   · exact llimbs_3m i0 i1 i2 j0 j1 j2 _ _ _ _ _ _ d e_ _ _ _ _ _ _ _ _ _ _ _ _ _ _ _ _ (fun w R=>known16_any w R) ca (fun w _=>lzero_f zX w) cb (fun w _=>lzero_f zY w) ma mb o0 n0 o1 n1 o2 n2 (I1 3 c) (I2 3 c) (I3 3 c) (I4 _ rfl) an it l1 l2 w R
   · exact llimbs_4m i0 i1 i2 j0 j1 j2 _ _ _ _ _ _ d e_ _ _ _ _ _ _ _ _ _ _ _ _ _ _ _ _ (fun w R=>known16_any w R) ca (fun w _=>lzero_f zX w) cb (fun w _=>lzero_f zY w) ma mb o0 n0 o1 n1 o2 n2 (I1 4 c) (I2 4 c) (I3 4 c) (I4 _ rfl) an it l1 l2 w R
end Go.Proofs.YtpiiclmkbplkhaaGreatDoor.Kl
