import Derived.Test.YtpiiclmkbplkhaaGreatDoorKlLTrendsCLA
namespace Go.Proofs.YtpiiclmkbplkhaaGreatDoor.Kl
open Go Go.RowKit
set_option maxRecDepth 100000
set_option maxHeartbeats 8000000
theorem lgcd_bound {a b n:Nat} (ha:a≤n) (hb:b≤n):Nat.gcd a b≤n:=by
 by_cases h:a=0
 · subst h;rw [Nat.gcd_zero_left];exact hb
 · exact Nat.le_trans (Nat.gcd_le_left b (by omega)) ha
theorem ldown_w (X Y Z g1 G D:Int) (hD:D=if upI X Y Z then -G else G) (hG:0 < G) (hG2:G≤1000) (hx:X.natAbs≤1000) (hy:Y.natAbs≤1000) (hz:Z.natAbs≤1000)
   (c1:∀ w,Calls Tryz.prog 60 #[.int .i64 X,.int .i64 Y] w (Ret w (.int .i64 g1)))
   (c2:∀ w,Calls Tryz.prog 60 #[.int .i64 g1,.int .i64 Z] w (Ret w (.int .i64 G))) (w:World) :
   Calls Tryz.prog 32 #[.agg #[.int .i64 X,.int .i64 Y,.int .i64 Z]] w (Ret w (.agg #[.int .i64 (X.tdiv D),.int .i64 (Y.tdiv D),.int .i64 (Z.tdiv D)])):=by
 have C1:=Lib.hid c1
 have C2:=Lib.hid c2
 clear c1 c2
 have hb:=Below.refl w.heap.size w
 have hne:(D == 0)=false:=by rw [hD];split <;> simp <;> omega
 have hnd:¬ D=0:=by simpa using hne
 have hDn:D.natAbs≤1000:=by rw [hD];split <;> omega
 have td:∀ V:Int,V.natAbs≤1000→IntKind.i64.wrap (V.tdiv D)=V.tdiv D:=fun V hV=>wrapS _ (by rw [Int.natAbs_tdiv];exact Nat.le_trans (Nat.div_le_self _ _) (by omega))
 have t0:=td X hx
 have t1:=td Y hy
 have t2:=td Z hz
 clear td
 go_enter Tryz.func32,Tryz.ntmps32
 go_upto_region 1 with fail
 refine wp_alloc2 (fun w1 a0 a1 hk=>?_)
 replace hb:=hb.trans (hk.mono hb.size)
 clear hk
 obtain ⟨Ag,Ah,Ai⟩:=ce3 a0
 obtain ⟨Aa,Ad,Ab,Ae,Ac,Af⟩:=cf3 a1
 obtain ⟨Aj,Ak,Al⟩:=cy3 a0
 obtain ⟨Am,An,Ao⟩:=cy3 a1
 have Ap:=Lib.hid (fun d os=>Calls.regrown_of (C1.out (Sort.grow (redrawn w1 d) os)))
 have Aq:=Lib.hid (fun d os=>Calls.regrown_of (C2.out (Sort.grow (redrawn w1 d) os)))
 refine wp_region_quiet_below (by first | assumption | kernel_rfl) (by kernel_rfl) ?_
 repeat (quiet_step (first | (with_reducible exact Ap.out _ _) | (with_reducible exact Aq.out _ _)))
 refine wpQuiet_nil ?_
 intro w1 hw'
 obtain ⟨hk,hb⟩:=zQ hb hw'
 clear Ag Ah Ai Aa Ab Ac Ad Ae Af
 replace a0:=zB hk a0
 replace a1:=zB hk a1
 obtain ⟨Ag,Ah,Ai⟩:=ce3 a0
 obtain ⟨Aa,Ad,Ab,Ae,Ac,Af⟩:=cf3 a1
 clear Ap Aq Aj Ak Al Am An Ao
 clear hk hw'
 have gn:IntKind.i64.wrap (-G) = -G:=wrapS _ (by omega)
 have hcase:(decide (0 < Z)=true∧D = -G)∨(decide (0 < Z)=false∧(Z == 0)=false∧D=G)∨(decide (0 < Z)=false∧(Z == 0)=true∧decide (Y < 0)=true∧D = -G)∨(decide (0 < Z)=false∧(Z == 0)=true∧decide (Y < 0)=false∧(Y == 0)=false∧D=G)∨(decide (0 < Z)=false∧(Z == 0)=true∧decide (Y < 0)=false∧(Y == 0)=true∧decide (X < 0)=true∧D = -G)∨(decide (0 < Z)=false∧(Z == 0)=true∧decide (Y < 0)=false∧(Y == 0)=true∧decide (X < 0)=false∧D=G):=by
   rw [hD]
   unfold upI
   simp only [decide_eq_true_eq,decide_eq_false_iff_not,beq_iff_eq,beq_eq_false_iff_ne,ne_eq]
   by_cases e1:0 < Z
   · simp [e1]
   by_cases e2:Z=0
   · by_cases e3:Y < 0
     · simp [e2,e3]
     by_cases e4:Y=0
     · by_cases e5:X < 0 <;> simp [e2,e4,e5]
     · simp [e2,e3,e4]
   · simp [e1,e2]
 clear hD hG hG2 hx hy hz C1 C2
 rcases hcase with ⟨e1,e⟩ | ⟨e1,e2,e⟩ | ⟨e1,e2,e3,e⟩ | ⟨e1,e2,e3,e4,e⟩ | ⟨e1,e2,e3,e4,e5,e⟩ | ⟨e1,e2,e3,e4,e5,e⟩
 all_goals
   (first | (replace gn:=gn.trans e.symm;clear e) | subst e)
   go_upto_region 4 with fail
   obtain ⟨Aj,Ak,Al⟩:=cy3 a0
   obtain ⟨Am,An,Ao⟩:=cy3 a1
   refine wp_region_tail_below 13 (by first | assumption | kernel_rfl) (by kernel_rfl) ?_
   simp only [List.take_succ_cons,List.take_zero,List.drop_succ_cons,List.drop_zero]
   repeat (quiet_step (fail))
   refine wpQuiet_nil ?_
   intro w1 hw'
   obtain ⟨hk,hb⟩:=zQ hb hw'
   replace Ad:=zF hk a1 Ad
   replace Ae:=zF hk a1 Ae
   replace Af:=zF hk a1 Af
   replace Aa:=zC hk Aa
   replace Ab:=zC hk Ab
   replace Ac:=zC hk Ac
   clear Aj Ak Al Am An Ao Ag Ah Ai
   clear hk hw'
   go_wp2
   refine bodyPost_ret (v:=.agg #[.int .i64 (X.tdiv D),.int .i64 (Y.tdiv D),.int .i64 (Z.tdiv D)]) (by simp [results,Tryz.results32,go_sem,Aa,Ab,Ac]) rfl ⟨rfl,?_⟩
   repeat' (first | exact hb | refine Below.setCell ?_ (by first | exact Nat.le_refl _ | (dsimp only;omega)) _)
theorem ldown_any (X Y Z:Int) (hx:X.natAbs≤1000) (hy:Y.natAbs≤1000) (hz:Z.natAbs≤1000) (h:X≠0∨Y≠0∨Z≠0) (w:World) :
   Calls Tryz.prog 32 #[.agg #[.int .i64 X,.int .i64 Y,.int .i64 Z]] w (Ret w (.agg #[.int .i64 (X.tdiv (dnG X Y Z)),.int .i64 (Y.tdiv (dnG X Y Z)),.int .i64 (Z.tdiv (dnG X Y Z))])):=by
 have hG:=g3_pos X Y Z h
 have b1:Nat.gcd X.natAbs Y.natAbs≤1000:=lgcd_bound hx hy
 have b2:g3 X Y Z≤1000:=lgcd_bound b1 hz
 refine ldown_w X Y Z (Nat.gcd X.natAbs Y.natAbs:Int) (g3 X Y Z:Int) (dnG X Y Z) rfl (by omega) (by omega) hx hy hz (fun w=>lgcd_any X Y (by omega) (by omega) w) (fun w=>?_) w
 have c2:=lgcd_any ((Nat.gcd X.natAbs Y.natAbs:Nat):Int) Z (by rw [Int.natAbs_natCast];omega) (by omega) w
 rw [Int.natAbs_natCast] at c2
 exact c2
theorem loct_w (x y v:Int) (hv:v=octI x y) (w:World) :
   Calls Tryz.prog 33 #[.int .i64 x,.int .i64 y] w (Ret w (.int .i64 v)):=by
 have hb:=Below.refl w.heap.size w
 have hx:(x == 0)=true∧decide (0 < x)=false∨(x == 0)=false∧decide (0 < x)=true∨(x == 0)=false∧decide (0 < x)=false:=by
   simp only [decide_eq_true_eq,decide_eq_false_iff_not,beq_iff_eq,beq_eq_false_iff_ne,ne_eq];omega
 have hy:(y == 0)=true∧decide (0 < y)=false∧decide (y < 0)=false∨(y == 0)=false∧decide (0 < y)=true∧decide (y < 0)=false∨(y == 0)=false∧decide (0 < y)=false∧decide (y < 0)=true:=by
   simp only [decide_eq_true_eq,decide_eq_false_iff_not,beq_iff_eq,beq_eq_false_iff_ne,ne_eq];omega
 rcases hx with ⟨x1,x2⟩ | ⟨x1,x2⟩ | ⟨x1,x2⟩ <;> rcases hy with ⟨y1,y2,y3⟩ | ⟨y1,y2,y3⟩ | ⟨y1,y2,y3⟩
 all_goals
   unfold octI at hv
   have x1':=x1
   have x2':=x2
   have y1':=y1
   have y2':=y2
   have y3':=y3
   simp only [decide_eq_true_eq,decide_eq_false_iff_not,beq_iff_eq,beq_eq_false_iff_ne,ne_eq] at x1' x2' y1' y2' y3'
   simp only [x1',x2',y1',y2',y3',and_true,true_and,and_false,false_and,if_true,if_false] at hv
   clear x1' x2' y1' y2' y3'
   subst hv
   go_enter Tryz.func33,Tryz.ntmps33
   go_wp2
   go_ret
   exact ⟨rfl,hb⟩
def byI (d:Int):Int:=1+d.tmod 3
theorem byI_le (d:Int) (h0:0≤d):1≤byI d∧byI d≤3:=by
 unfold byI
 have h:=Int.tmod_eq_emod_of_nonneg (a:=d) h0 (b:=3)
 rw [h]
 omega
theorem lmake_any (i0 i1 i2 d:Int) (b0 : -128≤i0∧i0≤127) (b1 : -128≤i1∧i1≤127) (b2 : -128≤i2∧i2≤127) (b3:0≤d∧d≤255) (w:World) (R:EnvV w) :
   Calls Tryz.prog 30 #[.agg #[.int .i8 i0,.int .i8 i1,.int .i8 i2,.int .u8 d]] w (Ret w (.agg #[.string (ratB (Rat.divInt (i0.tmod 21) (byI d))),.string (ratB (Rat.divInt (i1.tmod 21) (byI d))),.string (ratB (Rat.divInt (i2.tmod 21) (byI d)))])):=by
 have hby:=byI_le d b3.1
 have tb0:=tmod21 i0
 have tb1:=tmod21 i1
 have tb2:=tmod21 i2
 have cc:∀ n:Int,-20≤n→n≤20→CV 59 #[.int .i64 n,.int .i64 (byI d)] (.tuple #[.string (ratB (Rat.divInt n (byI d))),.int .i64 0]):=fun n h0 h1 w R=>rof_any n (byI d) (by omega) (by omega) (by omega) (by omega) (by omega) w R.toEnvR
 have c1:=cc _ tb0.1 tb0.2
 have c2:=cc _ tb1.1 tb1.2
 have c3:=cc _ tb2.1 tb2.2
 clear cc
 have gw0:IntKind.i64.wrap (i0.tmod 21)=i0.tmod 21:=IntWalk.i64_in _ (by omega)
 have gv0:IntKind.i64.wrap i0=i0:=IntWalk.i64_in _ (by omega)
 have gw1:IntKind.i64.wrap (i1.tmod 21)=i1.tmod 21:=IntWalk.i64_in _ (by omega)
 have gv1:IntKind.i64.wrap i1=i1:=IntWalk.i64_in _ (by omega)
 have gw2:IntKind.i64.wrap (i2.tmod 21)=i2.tmod 21:=IntWalk.i64_in _ (by omega)
 have gv2:IntKind.i64.wrap i2=i2:=IntWalk.i64_in _ (by omega)
 have eby:1+d.tmod 3=byI d:=rfl
 have gd:IntKind.i64.wrap (d.tmod 3)=d.tmod 3:=IntWalk.i64_in _ (by omega)
 have gd2:IntKind.i64.wrap (1+d.tmod 3)=byI d:=IntWalk.i64_in _ (by omega)
 obtain ⟨Ak,et0⟩:∃ vq,ratB (Rat.divInt (i0.tmod 21) (byI d))=vq:=⟨_,rfl⟩
 obtain ⟨Al,et1⟩:∃ vq,ratB (Rat.divInt (i1.tmod 21) (byI d))=vq:=⟨_,rfl⟩
 obtain ⟨Am,et2⟩:∃ vq,ratB (Rat.divInt (i2.tmod 21) (byI d))=vq:=⟨_,rfl⟩
 simp only [et0,et1,et2] at c1 c2 c3 ⊢
 obtain ⟨by',eb'⟩:∃ v,byI d=v:=⟨_,rfl⟩
 rw [eb'] at c1 c2 c3 gd2
 have C1:=Lib.hid c1
 have C2:=Lib.hid c2
 have C3:=Lib.hid c3
 clear c1 c2 c3 et0 et1 et2 hby eby eb' tb0 tb1 tb2 b0 b1 b2 b3
 have hb:=Below.refl w.heap.size w
 go_enter Tryz.func30,Tryz.ntmps30
 go_upto_region 1 with fail
 refine wp_alloc2 (fun w1 a0 a1 hk=>?_)
 replace hb:=hb.trans (hk.mono hb.size)
 clear hk
 obtain ⟨Ad,Ae,Af,Ag⟩:=ce4 a0
 obtain ⟨Aa,Ah,Ab,Ai,Ac,Aj⟩:=cf3 a1
 go_wp2_with ((go_at_call 59;first | with_reducible refine (chVB hb R C1).mono ?_ | with_reducible refine (chVB hb R C2).mono ?_ | with_reducible refine (chVB hb R C3).mono ?_);clear hb;rintro e w1 ⟨rfl,hk1,hb⟩;replace Ad:=zC hk1 Ad;replace Ae:=zC hk1 Ae;replace Af:=zC hk1 Af;replace Ag:=zC hk1 Ag;replace a0:=zB hk1 a0;replace Aa:=zC hk1 Aa;replace Ah:=zF hk1 a1 Ah;replace Ab:=zC hk1 Ab;replace Ai:=zF hk1 a1 Ai;replace Ac:=zC hk1 Ac;replace Aj:=zF hk1 a1 Aj;replace a1:=zB hk1 a1;clear hk1)
 refine bodyPost_ret (v:=.agg #[.string Ak,.string Al,.string Am]) (by simp [results,Tryz.results30,go_sem,Aa,Ab,Ac]) rfl ⟨rfl,?_⟩
 repeat' (first | exact hb | refine Below.setCell ?_ (by first | exact Nat.le_refl _ | (dsimp only;omega)) _)
end Go.Proofs.YtpiiclmkbplkhaaGreatDoor.Kl
