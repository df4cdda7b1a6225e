import Derived.Test.YtpiiclmkbplkhaaGreatDoorKlLPlanesCLA
namespace Go.Proofs.YtpiiclmkbplkhaaGreatDoor.Kl
open Go Go.RowKit
set_option maxRecDepth 100000
set_option maxHeartbeats 8000000
theorem lcross_any (x y z p q r:Int) (hx:x.natAbs≤1000) (hy:y.natAbs≤1000) (hz:z.natAbs≤1000) (hp:p.natAbs≤1000) (hq:q.natAbs≤1000) (hr:r.natAbs≤1000) (w:World) :
   Calls Tryz.prog 37 #[.agg #[.int .i64 x,.int .i64 y,.int .i64 z],.agg #[.int .i64 p,.int .i64 q,.int .i64 r]] w (Ret w (.agg #[.int .i64 (y*r - z*q),.int .i64 (z*p - x*r),.int .i64 (x*q - y*p)])):=by
 have m0:(y*r).natAbs≤1000000:=mulS hy hr (by decide)
 have m1:(z*q).natAbs≤1000000:=mulS hz hq (by decide)
 have m2:(z*p).natAbs≤1000000:=mulS hz hp (by decide)
 have m3:(x*r).natAbs≤1000000:=mulS hx hr (by decide)
 have m4:(x*q).natAbs≤1000000:=mulS hx hq (by decide)
 have m5:(y*p).natAbs≤1000000:=mulS hy hp (by decide)
 have g0:=wrapS (y*r) (by omega)
 have g1:=wrapS (z*q) (by omega)
 have g2:=wrapS (z*p) (by omega)
 have g3:=wrapS (x*r) (by omega)
 have g4:=wrapS (x*q) (by omega)
 have g5:=wrapS (y*p) (by omega)
 have g6:=wrapS (y*r - z*q) (by omega)
 have g7:=wrapS (z*p - x*r) (by omega)
 have g8:=wrapS (x*q - y*p) (by omega)
 have hb:=Below.refl w.heap.size w
 clear m0 m1 m2 m3 m4 m5
 go_enter Tryz.func37,Tryz.ntmps37
 go_upto_region 1 with fail
 refine wp_alloc3 (fun w1 a0 a1 a2 hk=>?_)
 replace hb:=hb.trans (hk.mono hb.size)
 clear hk
 obtain ⟨Ad,Ae,Af⟩:=ce3 a0
 obtain ⟨Ag,Ah,Ai⟩:=ce3 a1
 obtain ⟨Aa,Aj,Ab,Ak,Ac,Al⟩:=cf3 a2
 go_wp2
 refine bodyPost_ret (v:=.agg #[.int .i64 (y*r - z*q),.int .i64 (z*p - x*r),.int .i64 (x*q - y*p)]) (by simp [results,Tryz.results37,go_sem,Aa,Ab,Ac]) rfl ⟨rfl,?_⟩
 repeat' (first | exact hb | refine Below.setCell ?_ (by first | exact Nat.le_refl _ | (dsimp only;omega)) _)
theorem lgcd_bound {a b n:Nat} (ha:a≤n) (hb:b≤n):Nat.gcd a b≤n:=by
 by_cases h:a=0
 · subst h;rw [Nat.gcd_zero_left];exact hb
 · exact Nat.le_trans (Nat.gcd_le_left b (by omega)) ha
theorem ldown_w (X Y Z g1 G D:Int) (hD:D=if upI X Y Z then -G else G) (hG:0 < G) (hG2:G≤1000) (hx:X.natAbs≤1000) (hy:Y.natAbs≤1000) (hz:Z.natAbs≤1000)
   (c1:∀ w,Calls Tryz.prog 60 #[.int .i64 X,.int .i64 Y] w (Ret w (.int .i64 g1)))
   (c2:∀ w,Calls Tryz.prog 60 #[.int .i64 g1,.int .i64 Z] w (Ret w (.int .i64 G))) (w:World) :
   Calls Tryz.prog 32 #[.agg #[.int .i64 X,.int .i64 Y,.int .i64 Z]] w (Ret w (.agg #[.int .i64 (X.tdiv D),.int .i64 (Y.tdiv D),.int .i64 (Z.tdiv D)])):=by
 have C1:=Lib.hid c1
 have C2:=Lib.hid c2
 clear c1 c2
 have hb:=Below.refl w.heap.size w
 have hne:(D == 0)=false:=by rw [hD];split <;> simp <;> omega
 have hnd:¬ D=0:=by simpa using hne
 have hDn:D.natAbs≤1000:=by rw [hD];split <;> omega
 have td:∀ V:Int,V.natAbs≤1000→IntKind.i64.wrap (V.tdiv D)=V.tdiv D:=fun V hV=>wrapS _ (by rw [Int.natAbs_tdiv];exact Nat.le_trans (Nat.div_le_self _ _) (by omega))
 have t0:=td X hx
 have t1:=td Y hy
 have t2:=td Z hz
 clear td
 go_enter Tryz.func32,Tryz.ntmps32
 go_upto_region 1 with fail
 refine wp_alloc2 (fun w1 a0 a1 hk=>?_)
 replace hb:=hb.trans (hk.mono hb.size)
 clear hk
 obtain ⟨Ag,Ah,Ai⟩:=ce3 a0
 obtain ⟨Aa,Ad,Ab,Ae,Ac,Af⟩:=cf3 a1
 obtain ⟨Aj,Ak,Al⟩:=cy3 a0
 obtain ⟨Am,An,Ao⟩:=cy3 a1
 have Ap:=Lib.hid (fun d os=>Calls.regrown_of (C1.out (Sort.grow (redrawn w1 d) os)))
 have Aq:=Lib.hid (fun d os=>Calls.regrown_of (C2.out (Sort.grow (redrawn w1 d) os)))
 refine wp_region_quiet_below (by first | assumption | kernel_rfl) (by kernel_rfl) ?_
 repeat (quiet_step (first | (with_reducible exact Ap.out _ _) | (with_reducible exact Aq.out _ _)))
 refine wpQuiet_nil ?_
 intro w1 hw'
 obtain ⟨hk,hb⟩:=zQ hb hw'
 clear Ag Ah Ai Aa Ab Ac Ad Ae Af
 replace a0:=zB hk a0
 replace a1:=zB hk a1
 obtain ⟨Ag,Ah,Ai⟩:=ce3 a0
 obtain ⟨Aa,Ad,Ab,Ae,Ac,Af⟩:=cf3 a1
 clear Ap Aq Aj Ak Al Am An Ao
 clear hk hw'
 have gn:IntKind.i64.wrap (-G) = -G:=wrapS _ (by omega)
 have hcase:(decide (0 < Z)=true∧D = -G)∨(decide (0 < Z)=false∧(Z == 0)=false∧D=G)∨(decide (0 < Z)=false∧(Z == 0)=true∧decide (Y < 0)=true∧D = -G)∨(decide (0 < Z)=false∧(Z == 0)=true∧decide (Y < 0)=false∧(Y == 0)=false∧D=G)∨(decide (0 < Z)=false∧(Z == 0)=true∧decide (Y < 0)=false∧(Y == 0)=true∧decide (X < 0)=true∧D = -G)∨(decide (0 < Z)=false∧(Z == 0)=true∧decide (Y < 0)=false∧(Y == 0)=true∧decide (X < 0)=false∧D=G):=by
   rw [hD]
   unfold upI
   simp only [decide_eq_true_eq,decide_eq_false_iff_not,beq_iff_eq,beq_eq_false_iff_ne,ne_eq]
   by_cases e1:0 < Z
   · simp [e1]
   by_cases e2:Z=0
   · by_cases e3:Y < 0
     · simp [e2,e3]
     by_cases e4:Y=0
     · by_cases e5:X < 0 <;> simp [e2,e4,e5]
     · simp [e2,e3,e4]
   · simp [e1,e2]
 clear hD hG hG2 hx hy hz C1 C2
 rcases hcase with ⟨e1,e⟩ | ⟨e1,e2,e⟩ | ⟨e1,e2,e3,e⟩ | ⟨e1,e2,e3,e4,e⟩ | ⟨e1,e2,e3,e4,e5,e⟩ | ⟨e1,e2,e3,e4,e5,e⟩
 all_goals
   (first | (replace gn:=gn.trans e.symm;clear e) | subst e)
   go_upto_region 4 with fail
   obtain ⟨Aj,Ak,Al⟩:=cy3 a0
   obtain ⟨Am,An,Ao⟩:=cy3 a1
   refine wp_region_tail_below 13 (by first | assumption | kernel_rfl) (by kernel_rfl) ?_
   simp only [List.take_succ_cons,List.take_zero,List.drop_succ_cons,List.drop_zero]
   repeat (quiet_step (fail))
   refine wpQuiet_nil ?_
   intro w1 hw'
   obtain ⟨hk,hb⟩:=zQ hb hw'
   replace Ad:=zF hk a1 Ad
   replace Ae:=zF hk a1 Ae
   replace Af:=zF hk a1 Af
   replace Aa:=zC hk Aa
   replace Ab:=zC hk Ab
   replace Ac:=zC hk Ac
   clear Aj Ak Al Am An Ao Ag Ah Ai
   clear hk hw'
   go_wp2
   refine bodyPost_ret (v:=.agg #[.int .i64 (X.tdiv D),.int .i64 (Y.tdiv D),.int .i64 (Z.tdiv D)]) (by simp [results,Tryz.results32,go_sem,Aa,Ab,Ac]) rfl ⟨rfl,?_⟩
   repeat' (first | exact hb | refine Below.setCell ?_ (by first | exact Nat.le_refl _ | (dsimp only;omega)) _)
theorem ldown_any (X Y Z:Int) (hx:X.natAbs≤1000) (hy:Y.natAbs≤1000) (hz:Z.natAbs≤1000) (h:X≠0∨Y≠0∨Z≠0) (w:World) :
   Calls Tryz.prog 32 #[.agg #[.int .i64 X,.int .i64 Y,.int .i64 Z]] w (Ret w (.agg #[.int .i64 (X.tdiv (dnG X Y Z)),.int .i64 (Y.tdiv (dnG X Y Z)),.int .i64 (Z.tdiv (dnG X Y Z))])):=by
 have hG:=g3_pos X Y Z h
 have b1:Nat.gcd X.natAbs Y.natAbs≤1000:=lgcd_bound hx hy
 have b2:g3 X Y Z≤1000:=lgcd_bound b1 hz
 refine ldown_w X Y Z (Nat.gcd X.natAbs Y.natAbs:Int) (g3 X Y Z:Int) (dnG X Y Z) rfl (by omega) (by omega) hx hy hz (fun w=>lgcd_any X Y (by omega) (by omega) w) (fun w=>?_) w
 have c2:=lgcd_any ((Nat.gcd X.natAbs Y.natAbs:Nat):Int) Z (by rw [Int.natAbs_natCast];omega) (by omega) w
 rw [Int.natAbs_natCast] at c2
 exact c2
end Go.Proofs.YtpiiclmkbplkhaaGreatDoor.Kl
