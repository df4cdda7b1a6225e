import Derived.Test.YtpiiclmkbplkhaaGreatDoorKlLPlungesCLW
import Derived.Test.YtpiiclmkbplkhaaGreatDoorKlLPlungesCLawLPlunges
namespace Go.Proofs.YtpiiclmkbplkhaaGreatDoor.Kl
open Go Go.RowKit
set_option maxRecDepth 100000
set_option maxHeartbeats 8000000
theorem lawPlunges (i0 i1 i2 d j0 j1 j2 e:Int) (bi0 : -128≤i0∧i0≤127) (bi1 : -128≤i1∧i1≤127) (bi2 : -128≤i2∧i2≤127) (bi3:0≤d∧d≤255) (bj0 : -128≤j0∧j0≤127) (bj1 : -128≤j1∧j1≤127) (bj2 : -128≤j2∧j2≤127) (bj3:0≤e∧e≤255) (w:World) (R:EnvV w) :
   Calls Tryz.prog 6 #[.agg #[.int .i8 i0,.int .i8 i1,.int .i8 i2,.int .u8 d],.agg #[.int .i8 j0,.int .i8 j1,.int .i8 j2,.int .u8 e]] w fun e_ w' => e_ = .returned (.bool true)∧Below w.heap.size w w':=by
 obtain ⟨X0,X1,X2,kX,bX,pX,rX,ca,ma⟩:=descr i0 i1 i2 d bi0 bi1 bi2 bi3
 obtain ⟨Y0,Y1,Y2,kY,bY,pY,rY,cb,mb⟩:=descr j0 j1 j2 e bj0 bj1 bj2 bj3
 by_cases zX:X0=0∧X1=0∧X2=0
 · exact lplunges_za i0 i1 i2 j0 j1 j2 _ _ _ d e (fun w R=>known16_any w R) ca (fun w _=>lzero_t zX w) w R
 by_cases zY:Y0=0∧Y1=0∧Y2=0
 · exact lplunges_zb i0 i1 i2 j0 j1 j2 _ _ _ _ _ _ d e (fun w R=>known16_any w R) ca (fun w _=>lzero_f zX w) cb (fun w _=>lzero_t zY w) w R
 have h:=DV_of bX pX rX zX
 have g:=DV_of bY pY rY zY
 obtain ⟨ma0,ema0⟩:∃ v,X0*X0=v:=⟨_,rfl⟩
 have bma0:=mulS (a:=20*20) bX.1 bX.1 (Nat.le_refl _)
 rw [ema0] at bma0
 have wma0:IntKind.i64.wrap (X0*X0)=ma0:=by rw [ema0];exact wrapS _ (Nat.le_trans bma0 (by decide))
 obtain ⟨ma1,ema1⟩:∃ v,X1*X1=v:=⟨_,rfl⟩
 have bma1:=mulS (a:=20*20) bX.2.1 bX.2.1 (Nat.le_refl _)
 rw [ema1] at bma1
 have wma1:IntKind.i64.wrap (X1*X1)=ma1:=by rw [ema1];exact wrapS _ (Nat.le_trans bma1 (by decide))
 obtain ⟨fl,efl⟩:∃ v,ma0+ma1=v:=⟨_,rfl⟩
 have bfl:fl.natAbs≤800:=by omega
 have wfl:IntKind.i64.wrap (ma0+ma1)=fl:=by rw [efl];exact wrapS _ (Nat.le_trans bfl (by decide))
 obtain ⟨mb0,emb0⟩:∃ v,Y0*Y0=v:=⟨_,rfl⟩
 have bmb0:=mulS (a:=20*20) bY.1 bY.1 (Nat.le_refl _)
 rw [emb0] at bmb0
 have wmb0:IntKind.i64.wrap (Y0*Y0)=mb0:=by rw [emb0];exact wrapS _ (Nat.le_trans bmb0 (by decide))
 obtain ⟨mb1,emb1⟩:∃ v,Y1*Y1=v:=⟨_,rfl⟩
 have bmb1:=mulS (a:=20*20) bY.2.1 bY.2.1 (Nat.le_refl _)
 rw [emb1] at bmb1
 have wmb1:IntKind.i64.wrap (Y1*Y1)=mb1:=by rw [emb1];exact wrapS _ (Nat.le_trans bmb1 (by decide))
 obtain ⟨ot,eot⟩:∃ v,mb0+mb1=v:=⟨_,rfl⟩
 have bot:ot.natAbs≤800:=by omega
 have wot:IntKind.i64.wrap (mb0+mb1)=ot:=by rw [eot];exact wrapS _ (Nat.le_trans bot (by decide))
 obtain ⟨zz,ezz⟩:∃ v,X2*X2=v:=⟨_,rfl⟩
 have bzz:=mulS (a:=20*20) bX.2.2 bX.2.2 (Nat.le_refl _)
 rw [ezz] at bzz
 have wzz:IntKind.i64.wrap (X2*X2)=zz:=by rw [ezz];exact wrapS _ (Nat.le_trans bzz (by decide))
 obtain ⟨mg1,emg1⟩:∃ v,zz*ot=v:=⟨_,rfl⟩
 have bmg1:=mulS (a:=400*800) bzz bot (Nat.le_refl _)
 rw [emg1] at bmg1
 have wmg1:IntKind.i64.wrap (zz*ot)=mg1:=by rw [emg1];exact wrapS _ (Nat.le_trans bmg1 (by decide))
 obtain ⟨ww,eww⟩:∃ v,Y2*Y2=v:=⟨_,rfl⟩
 have bww:=mulS (a:=20*20) bY.2.2 bY.2.2 (Nat.le_refl _)
 rw [eww] at bww
 have www:IntKind.i64.wrap (Y2*Y2)=ww:=by rw [eww];exact wrapS _ (Nat.le_trans bww (by decide))
 obtain ⟨mg2,emg2⟩:∃ v,ww*fl=v:=⟨_,rfl⟩
 have bmg2:=mulS (a:=400*800) bww bfl (Nat.le_refl _)
 rw [emg2] at bmg2
 have wmg2:IntKind.i64.wrap (ww*fl)=mg2:=by rw [emg2];exact wrapS _ (Nat.le_trans bmg2 (by decide))
 obtain ⟨df,edf⟩:∃ v,mg1 - mg2=v:=⟨_,rfl⟩
 have bdf:df.natAbs≤640000:=by omega
 have wdf:IntKind.i64.wrap (mg1 - mg2)=df:=by rw [edf];exact wrapS _ (Nat.le_trans bdf (by decide))
 have efl':X0*X0+X1*X1=fl:=by rw [ema0,ema1,efl]
 have eot':Y0*Y0+Y1*Y1=ot:=by rw [emb0,emb1,eot]
 have edf':X2*X2*(Y0*Y0+Y1*Y1) - Y2*Y2*(X0*X0+X1*X1)=df:=by rw [efl',eot',ezz,eww,emg1,emg2,edf]
 have kc:∀ v:Int,df.sign=v→∀ w,EnvV w→_:=fun v hv w R=>dvCmpPlunge h g v (by rw [edf',hv]) w R
 have flz:fl=0↔X0=0∧X1=0:=by
   constructor
   · intro e
     by_cases q:X0=0∧X1=0
     · exact q
     · have:=S2_pos q;omega
   · rintro ⟨q0,q1⟩
     rw [← efl',q0,q1];rfl
 by_cases v:fl=0
 · skip
   rcases Int.lt_trichotomy df 0 with c | c | c
   · exact lplunges_vm i0 i1 i2 j0 j1 j2 _ _ _ _ _ _ d e _ _ _ _ _ _ _ _ _ _ _ _ _ _ _ _ _ (fun w R=>known16_any w R) ca (fun w _=>lzero_f zX w) cb (fun w _=>lzero_f zY w) ma mb (fun w R=>dvPlunge_v h (flz.1 v) w R) (kc (-1) (Int.sign_eq_neg_one_of_neg c)) wma0 wma1 wfl wmb0 wmb1 wot wzz wmg1 www wmg2 wdf (beq_iff_eq.2 v) (decide_eq_true c) w R
   · exact lplunges_vz i0 i1 i2 j0 j1 j2 _ _ _ _ _ _ d e _ _ _ _ _ _ _ _ _ _ _ _ _ _ _ _ _ (fun w R=>known16_any w R) ca (fun w _=>lzero_f zX w) cb (fun w _=>lzero_f zY w) ma mb (fun w R=>dvPlunge_v h (flz.1 v) w R) (kc 0 (by rw [c];rfl)) wma0 wma1 wfl wmb0 wmb1 wot wzz wmg1 www wmg2 wdf (beq_iff_eq.2 v) (decide_eq_false (by omega)) (decide_eq_false (by omega)) w R
   · exact lplunges_vp i0 i1 i2 j0 j1 j2 _ _ _ _ _ _ d e _ _ _ _ _ _ _ _ _ _ _ _ _ _ _ _ _ (fun w R=>known16_any w R) ca (fun w _=>lzero_f zX w) cb (fun w _=>lzero_f zY w) ma mb (fun w R=>dvPlunge_v h (flz.1 v) w R) (kc 1 (Int.sign_eq_one_of_pos c)) wma0 wma1 wfl wmb0 wmb1 wot wzz wmg1 www wmg2 wdf (beq_iff_eq.2 v) (decide_eq_false (by omega)) (decide_eq_true c) w R
 · skip
   rcases Int.lt_trichotomy df 0 with c | c | c
   · exact lplunges_nm i0 i1 i2 j0 j1 j2 _ _ _ _ _ _ d e _ _ _ _ _ _ _ _ _ _ _ _ _ _ _ _ _ _ (fun w R=>known16_any w R) ca (fun w _=>lzero_f zX w) cb (fun w _=>lzero_f zY w) ma mb (fun w R=>by have c:=dvPlunge h (mt flz.2 v) w R;rw [efl',ezz] at c;exact c) (kc (-1) (Int.sign_eq_neg_one_of_neg c)) (fun w R=>lquot_any zz fl (Nat.le_trans bzz (by decide)) (Nat.le_trans bfl (by decide)) v w R) wma0 wma1 wfl wmb0 wmb1 wot wzz wmg1 www wmg2 wdf (beq_eq_false_iff_ne.2 v) (decide_eq_true c) w R
   · exact lplunges_nz i0 i1 i2 j0 j1 j2 _ _ _ _ _ _ d e _ _ _ _ _ _ _ _ _ _ _ _ _ _ _ _ _ _ (fun w R=>known16_any w R) ca (fun w _=>lzero_f zX w) cb (fun w _=>lzero_f zY w) ma mb (fun w R=>by have c:=dvPlunge h (mt flz.2 v) w R;rw [efl',ezz] at c;exact c) (kc 0 (by rw [c];rfl)) (fun w R=>lquot_any zz fl (Nat.le_trans bzz (by decide)) (Nat.le_trans bfl (by decide)) v w R) wma0 wma1 wfl wmb0 wmb1 wot wzz wmg1 www wmg2 wdf (beq_eq_false_iff_ne.2 v) (decide_eq_false (by omega)) (decide_eq_false (by omega)) w R
   · exact lplunges_np i0 i1 i2 j0 j1 j2 _ _ _ _ _ _ d e _ _ _ _ _ _ _ _ _ _ _ _ _ _ _ _ _ _ (fun w R=>known16_any w R) ca (fun w _=>lzero_f zX w) cb (fun w _=>lzero_f zY w) ma mb (fun w R=>by have c:=dvPlunge h (mt flz.2 v) w R;rw [efl',ezz] at c;exact c) (kc 1 (Int.sign_eq_one_of_pos c)) (fun w R=>lquot_any zz fl (Nat.le_trans bzz (by decide)) (Nat.le_trans bfl (by decide)) v w R) wma0 wma1 wfl wmb0 wmb1 wot wzz wmg1 www wmg2 wdf (beq_eq_false_iff_ne.2 v) (decide_eq_false (by omega)) (decide_eq_true c) w R
end Go.Proofs.YtpiiclmkbplkhaaGreatDoor.Kl
