import Derived.Test.YtpiiclmkbplkhaaGreatDoorKlLMultiplesCLWZ
import Derived.Test.YtpiiclmkbplkhaaGreatDoorKlLMultiplesCLawLMultiples
namespace Go.Proofs.YtpiiclmkbplkhaaGreatDoor.Kl
open Go Go.RowKit
set_option maxRecDepth 100000
set_option maxHeartbeats 8000000
theorem plg (G A0 A1 A2:Int) (hG:G≠0) (h:¬ (A0=0∧A1=0)):Rat.divInt (G*A2*(G*A2)) (G*A0*(G*A0)+G*A1*(G*A1))=Rat.divInt (A2*A2) (A0*A0+A1*A1):=by
 have g0:((G*G:Int):Rat)≠0:=fun e=>(Int.mul_ne_zero hG hG) (by exact_mod_cast e)
 have b0:A0*A0+A1*A1≠0:=by have:=S2_pos h;omega
 rw [← divk ((G*G:Int):Rat) (A2*A2) (A0*A0+A1*A1) g0 b0,Rat.divInt_eq_div]
 congr 1
 · push_cast;grind
 · push_cast;grind
theorem half_rn : ∀ x:Fin 256,RN (Rat.divInt ((x.val:Int) - 128) 2) 3 1:=by unfold RN;decide +kernel
theorem half_rn' (k:Int) (h : -128≤k∧k≤127):RN (Rat.divInt k 2) 3 1:=by
 have c:=half_rn ⟨(k+128).toNat,by omega⟩
 simp only at c
 rwa [show (((k+128).toNat:Nat):Int) - 128=k by omega] at c
theorem half_pos (k:Int):(0 < k→0 < Rat.divInt k 2)∧(k < 0→0 < -Rat.divInt k 2):=by
 have i2:(0:Rat) < (2:Rat)⁻¹:=by decide +kernel
 have e:Rat.divInt k 2=(k:Rat)*(2:Rat)⁻¹:=by rw [Rat.divInt_eq_div,Rat.div_def];rfl
 rw [e]
 refine ⟨fun h=>Rat.mul_pos (by exact_mod_cast h) i2,fun h=>?_⟩
 have h2:(0:Rat) < ((-k:Int):Rat):=by exact_mod_cast (show (0:Int) < -k by omega)
 have:=Rat.mul_pos h2 i2
 rw [Rat.intCast_neg] at this
 grind
theorem multDV {kX:Rat} {X0 X1 X2:Int} (bX:X0.natAbs≤20∧X1.natAbs≤20∧X2.natAbs≤20) (pX:0 < kX) (rX:RN (kX*(X0:Rat)) 2 1∧RN (kX*(X1:Rat)) 2 1∧RN (kX*(X2:Rat)) 2 1) (z:¬ (X0=0∧X1=0∧X2=0)) (k:Int) (hk : -128≤k∧k≤127) (k0:k≠0) :
   ∃ (c:Rat) (Y0 Y1 Y2 s:Int),s≠0∧Y0=s*X0∧Y1=s*X1∧Y2=s*X2∧DV c Y0 Y1 Y2∧Rat.divInt k 2*(kX*(X0:Rat))=c*(Y0:Rat)∧Rat.divInt k 2*(kX*(X1:Rat))=c*(Y1:Rat)∧Rat.divInt k 2*(kX*(X2:Rat))=c*(Y2:Rat):=by
 have hr:=half_rn' k hk
 have hp:=half_pos k
 have up:∀ {q:Rat},RN q 2 1→RN (Rat.divInt k 2*q) 6 3:=fun r=>RN.up (RN_mul hr r) (by decide) (by decide)
 have nz:=nz3I z
 by_cases h:0 < k
 · have e:∀ V:Int,Rat.divInt k 2*(kX*(V:Rat))=(Rat.divInt k 2*kX)*(V:Rat):=fun V=>by grind
   refine ⟨Rat.divInt k 2*kX,X0,X1,X2,1,by decide,by omega,by omega,by omega,⟨Rat.mul_pos (hp.1 h) pX,?_,?_,?_,by omega,by omega,by omega,nz⟩,e _,e _,e _⟩
   · rw [← e];exact up rX.1
   · rw [← e];exact up rX.2.1
   · rw [← e];exact up rX.2.2
 · have e:∀ V:Int,Rat.divInt k 2*(kX*(V:Rat))=(-Rat.divInt k 2*kX)*((-V:Int):Rat):=fun V=>by rw [Rat.intCast_neg];grind
   refine ⟨-Rat.divInt k 2*kX,-X0,-X1,-X2,-1,by decide,by omega,by omega,by omega,⟨Rat.mul_pos (hp.2 (by omega)) pX,?_,?_,?_,by omega,by omega,by omega,by omega⟩,e _,e _,e _⟩
   · rw [← e];exact up rX.1
   · rw [← e];exact up rX.2.1
   · rw [← e];exact up rX.2.2
theorem lawMultiples (i0 i1 i2 d k:Int) (bi0 : -128≤i0∧i0≤127) (bi1 : -128≤i1∧i1≤127) (bi2 : -128≤i2∧i2≤127) (bi3:0≤d∧d≤255) (bk : -128≤k∧k≤127) (w:World) (R:EnvV w) :
   Calls Tryz.prog 10 #[.agg #[.int .i8 i0,.int .i8 i1,.int .i8 i2,.int .u8 d],.int .i8 k] w fun e_ w' => e_ = .returned (.bool true)∧Below w.heap.size w w':=by
 obtain ⟨X0,X1,X2,kX,bX,pX,rX,ca,ma⟩:=descr i0 i1 i2 d bi0 bi1 bi2 bi3
 by_cases zX:X0=0∧X1=0∧X2=0
 · exact lmult_za i0 i1 i2 _ _ _ d k (fun w R=>known16_any w R) ca (fun w _=>lzero_t zX w) w R
 by_cases k0:k=0
 · exact lmult_zk i0 i1 i2 _ _ _ d k (fun w R=>known16_any w R) ca (fun w _=>lzero_f zX w) (beq_iff_eq.2 k0) w R
 have h:=DV_of bX pX rX zX
 obtain ⟨c,Y0,Y1,Y2,s,s0,eY0,eY1,eY2,g,t0,t1,t2⟩:=multDV bX pX rX zX k bk k0
 obtain ⟨G,G0,g0,g1,g2⟩:=tdiv0 h.nz
 have nzp:=nz_of h.nz g0 g1 g2
 have bp0:=dn_bound X0 (dnG X0 X1 X2) 1000 h.b0
 have bp1:=dn_bound X1 (dnG X0 X1 X2) 1000 h.b1
 have bp2:=dn_bound X2 (dnG X0 X1 X2) 1000 h.b2
 have sY:=(same_ints Y0 Y1 Y2 X0 X1 X2 g.nz h.nz).1 (by rw [eY0,eY1,eY2];refine ⟨?_,?_,?_⟩ <;> grind)
 have o1:∀ w,EnvV w→_:=fun w R=>dvOf h w R
 have o2:∀ w,EnvV w→_:=fun w R=>dvOf g w R
 rw [sY.1,sY.2.1,sY.2.2] at o2
 have T1:=dvTrend h
 obtain ⟨p0,ep0⟩:∃ v,X0.tdiv (dnG X0 X1 X2)=v:=⟨_,rfl⟩
 obtain ⟨p1,ep1⟩:∃ v,X1.tdiv (dnG X0 X1 X2)=v:=⟨_,rfl⟩
 obtain ⟨p2,ep2⟩:∃ v,X2.tdiv (dnG X0 X1 X2)=v:=⟨_,rfl⟩
 rw [ep0] at g0 nzp bp0 o1 o2 T1
 rw [ep1] at g1 nzp bp1 o1 o2 T1
 rw [ep2] at g2 nzp bp2 o1 o2
 have f:=DV_one bp0 bp1 bp2 nzp
 have sp:=(same_ints p0 p1 p2 X0 X1 X2 nzp h.nz).1 (by rw [g0,g1,g2];refine ⟨?_,?_,?_⟩ <;> grind)
 rw [ep0,ep1,ep2] at sp
 have o3:∀ w,EnvV w→_:=fun w R=>dvOf f w R
 rw [sp.1,sp.2.1,sp.2.2,one_txt,one_txt,one_txt] at o3
 have T2:=dvTrend f
 rw [sp.1,sp.2.1] at T2
 have nrk:RL (Rat.divInt k 2) 10000:=(half_rn' k bk).rl
 have mu:∀ V:Int,RN (kX*(V:Rat)) 2 1→∀ w,EnvV w→_:=fun V r w R=>rmul_any (Rat.divInt k 2) (kX*(V:Rat)) nrk (r.rl) w R.toEnvR
 have m0:=mu X0 rX.1
 have m1:=mu X1 rX.2.1
 have m2:=mu X2 rX.2.2
 rw [t0] at m0
 rw [t1] at m1
 rw [t2] at m2
 have qu:∀ w,EnvV w→_:=fun w R=>lquot_any k 2 (by omega) (by decide) (by decide) w R
 have sm:∀ w,EnvV w→_:=fun w R=>dvSame_t h g (by rw [eY0,eY1,eY2];refine ⟨?_,?_,?_⟩ <;> grind) w R
 have hw:IntKind.i64.wrap k=k:=wrapS _ (by omega)
 have vp:(X0=0∧X1=0)↔(p0=0∧p1=0):=by
   rw [g0,g1,Int.mul_eq_zero,Int.mul_eq_zero];omega
 have vY:(Y0=0∧Y1=0)↔(X0=0∧X1=0):=by
   rw [eY0,eY1,Int.mul_eq_zero,Int.mul_eq_zero];omega
 by_cases v:X0=0∧X1=0
 · have P1:∀ w,EnvV w→_:=fun w R=>dvPlunge_v g (vY.2 v) w R
   have P2:∀ w,EnvV w→_:=fun w R=>dvPlunge_v f (vp.1 v) w R
   have V1:∀ w,EnvV w→_:=fun w R=>dvTrend_v h v w R
   have V2:∀ w,EnvV w→_:=fun w R=>dvTrend_v f (vp.1 v) w R
   rw [one_txt,one_txt,one_txt] at P2 V2
   exact lmult_m i0 i1 i2 _ _ _ d k _ _ _ _ _ _ _ _ _ _ _ _ _ _ (fun w R=>known16_any w R) ca (fun w _=>lzero_f zX w) ma qu m0 m1 m2 o1 o2 o3 sm V1 V2 P1 P2 (beq_eq_false_iff_ne.2 k0) hw w R
 · have P1:∀ w,EnvV w→_:=fun w R=>dvPlunge g (mt vY.1 v) w R
   have P2:∀ w,EnvV w→_:=fun w R=>dvPlunge f (mt vp.2 v) w R
   have V1:∀ w,EnvV w→_:=T1 v
   have V2:∀ w,EnvV w→_:=T2 (mt vp.2 v)
   rw [one_txt,one_txt,one_txt] at P2 V2
   have e0:Y0=s*G*p0:=by rw [eY0,g0,Int.mul_assoc]
   have e1:Y1=s*G*p1:=by rw [eY1,g1,Int.mul_assoc]
   have e2:Y2=s*G*p2:=by rw [eY2,g2,Int.mul_assoc]
   have er:Rat.divInt (Y2*Y2) (Y0*Y0+Y1*Y1)=Rat.divInt (p2*p2) (p0*p0+p1*p1):=by rw [e0,e1,e2];exact plg _ _ _ _ (Int.mul_ne_zero s0 G0) (mt vp.2 v)
   rw [er] at P1
   exact lmult_m i0 i1 i2 _ _ _ d k _ _ _ _ _ _ _ _ _ _ _ _ _ _ (fun w R=>known16_any w R) ca (fun w _=>lzero_f zX w) ma qu m0 m1 m2 o1 o2 o3 sm V1 V2 P1 P2 (beq_eq_false_iff_ne.2 k0) hw w R
end Go.Proofs.YtpiiclmkbplkhaaGreatDoor.Kl
