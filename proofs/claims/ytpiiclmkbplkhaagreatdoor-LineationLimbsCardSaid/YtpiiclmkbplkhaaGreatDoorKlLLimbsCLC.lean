import Derived.Test.YtpiiclmkbplkhaaGreatDoorKlLLimbsCLA
namespace Go.Proofs.YtpiiclmkbplkhaaGreatDoor.Kl
open Go Go.RowKit
set_option maxRecDepth 100000
set_option maxHeartbeats 8000000
def byI (d:Int):Int:=1+d.tmod 3
theorem byI_le (d:Int) (h0:0≤d):1≤byI d∧byI d≤3:=by
 unfold byI
 have h:=Int.tmod_eq_emod_of_nonneg (a:=d) h0 (b:=3)
 rw [h]
 omega
theorem lmake_any (i0 i1 i2 d:Int) (b0 : -128≤i0∧i0≤127) (b1 : -128≤i1∧i1≤127) (b2 : -128≤i2∧i2≤127) (b3:0≤d∧d≤255) (w:World) (R:EnvV w) :
   Calls Tryz.prog 30 #[.agg #[.int .i8 i0,.int .i8 i1,.int .i8 i2,.int .u8 d]] w (Ret w (.agg #[.string (ratB (Rat.divInt (i0.tmod 21) (byI d))),.string (ratB (Rat.divInt (i1.tmod 21) (byI d))),.string (ratB (Rat.divInt (i2.tmod 21) (byI d)))])):=by
 have hby:=byI_le d b3.1
 have tb0:=tmod21 i0
 have tb1:=tmod21 i1
 have tb2:=tmod21 i2
 have cc:∀ n:Int,-20≤n→n≤20→CV 59 #[.int .i64 n,.int .i64 (byI d)] (.tuple #[.string (ratB (Rat.divInt n (byI d))),.int .i64 0]):=fun n h0 h1 w R=>rof_any n (byI d) (by omega) (by omega) (by omega) (by omega) (by omega) w R.toEnvR
 have c1:=cc _ tb0.1 tb0.2
 have c2:=cc _ tb1.1 tb1.2
 have c3:=cc _ tb2.1 tb2.2
 clear cc
 have gw0:IntKind.i64.wrap (i0.tmod 21)=i0.tmod 21:=IntWalk.i64_in _ (by omega)
 have gv0:IntKind.i64.wrap i0=i0:=IntWalk.i64_in _ (by omega)
 have gw1:IntKind.i64.wrap (i1.tmod 21)=i1.tmod 21:=IntWalk.i64_in _ (by omega)
 have gv1:IntKind.i64.wrap i1=i1:=IntWalk.i64_in _ (by omega)
 have gw2:IntKind.i64.wrap (i2.tmod 21)=i2.tmod 21:=IntWalk.i64_in _ (by omega)
 have gv2:IntKind.i64.wrap i2=i2:=IntWalk.i64_in _ (by omega)
 have eby:1+d.tmod 3=byI d:=rfl
 have gd:IntKind.i64.wrap (d.tmod 3)=d.tmod 3:=IntWalk.i64_in _ (by omega)
 have gd2:IntKind.i64.wrap (1+d.tmod 3)=byI d:=IntWalk.i64_in _ (by omega)
 obtain ⟨Ak,et0⟩:∃ vq,ratB (Rat.divInt (i0.tmod 21) (byI d))=vq:=⟨_,rfl⟩
 obtain ⟨Al,et1⟩:∃ vq,ratB (Rat.divInt (i1.tmod 21) (byI d))=vq:=⟨_,rfl⟩
 obtain ⟨Am,et2⟩:∃ vq,ratB (Rat.divInt (i2.tmod 21) (byI d))=vq:=⟨_,rfl⟩
 simp only [et0,et1,et2] at c1 c2 c3 ⊢
 obtain ⟨by',eb'⟩:∃ v,byI d=v:=⟨_,rfl⟩
 rw [eb'] at c1 c2 c3 gd2
 have C1:=Lib.hid c1
 have C2:=Lib.hid c2
 have C3:=Lib.hid c3
 clear c1 c2 c3 et0 et1 et2 hby eby eb' tb0 tb1 tb2 b0 b1 b2 b3
 have hb:=Below.refl w.heap.size w
 go_enter Tryz.func30,Tryz.ntmps30
 go_upto_region 1 with fail
 refine wp_alloc2 (fun w1 a0 a1 hk=>?_)
 replace hb:=hb.trans (hk.mono hb.size)
 clear hk
 obtain ⟨Ad,Ae,Af,Ag⟩:=ce4 a0
 obtain ⟨Aa,Ah,Ab,Ai,Ac,Aj⟩:=cf3 a1
 go_wp2_with ((go_at_call 59;first | with_reducible refine (chVB hb R C1).mono ?_ | with_reducible refine (chVB hb R C2).mono ?_ | with_reducible refine (chVB hb R C3).mono ?_);clear hb;rintro e w1 ⟨rfl,hk1,hb⟩;replace Ad:=zC hk1 Ad;replace Ae:=zC hk1 Ae;replace Af:=zC hk1 Af;replace Ag:=zC hk1 Ag;replace a0:=zB hk1 a0;replace Aa:=zC hk1 Aa;replace Ah:=zF hk1 a1 Ah;replace Ab:=zC hk1 Ab;replace Ai:=zF hk1 a1 Ai;replace Ac:=zC hk1 Ac;replace Aj:=zF hk1 a1 Aj;replace a1:=zB hk1 a1;clear hk1)
 refine bodyPost_ret (v:=.agg #[.string Ak,.string Al,.string Am]) (by simp [results,Tryz.results30,go_sem,Aa,Ab,Ac]) rfl ⟨rfl,?_⟩
 repeat' (first | exact hb | refine Below.setCell ?_ (by first | exact Nat.le_refl _ | (dsimp only;omega)) _)
end Go.Proofs.YtpiiclmkbplkhaaGreatDoor.Kl
