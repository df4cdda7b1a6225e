import Derived.Test.YtpiiclmkbplkhaaGreatDoorKlLAnglesCVI
import Derived.Test.YtpiiclmkbplkhaaGreatDoorKlBLAZ
namespace Go.Proofs.YtpiiclmkbplkhaaGreatDoor.Kl
open Go Go.RowKit
set_option maxRecDepth 100000
set_option maxHeartbeats 8000000
theorem tmod21 (i:Int) : -20≤i.tmod 21∧i.tmod 21≤20:=by
 have h:=Int.natAbs_tmod i 21
 have h2:=Nat.mod_lt i.natAbs (show 0 < (21:Int).natAbs by decide)
 have h3:(21:Int).natAbs=21:=rfl
 omega
theorem lints_any (i0 i1 i2 d:Int) (b0 : -128≤i0∧i0≤127) (b1 : -128≤i1∧i1≤127) (b2 : -128≤i2∧i2≤127) (w:World) :
   Calls Tryz.prog 29 #[.agg #[.int .i8 i0,.int .i8 i1,.int .i8 i2,.int .u8 d]] w (Ret w (.agg #[.int .i64 (i0.tmod 21),.int .i64 (i1.tmod 21),.int .i64 (i2.tmod 21)])):=by
 have gw0:IntKind.i64.wrap (i0.tmod 21)=i0.tmod 21:=IntWalk.i64_in _ (by have:=tmod21 i0;omega)
 have gv0:IntKind.i64.wrap i0=i0:=IntWalk.i64_in _ (by omega)
 have gw1:IntKind.i64.wrap (i1.tmod 21)=i1.tmod 21:=IntWalk.i64_in _ (by have:=tmod21 i1;omega)
 have gv1:IntKind.i64.wrap i1=i1:=IntWalk.i64_in _ (by omega)
 have gw2:IntKind.i64.wrap (i2.tmod 21)=i2.tmod 21:=IntWalk.i64_in _ (by have:=tmod21 i2;omega)
 have gv2:IntKind.i64.wrap i2=i2:=IntWalk.i64_in _ (by omega)
 have hb:=Below.refl w.heap.size w
 go_enter Tryz.func29,Tryz.ntmps29
 go_upto_region 1 with fail
 refine wp_alloc2 (fun w1 a0 a1 hk=>?_)
 replace hb:=hb.trans (hk.mono hb.size)
 clear hk
 obtain ⟨Ad,Ae,Af,Ag⟩:=ce4 a0
 obtain ⟨Aa,Ah,Ab,Ai,Ac,Aj⟩:=cf3 a1
 go_wp2
 refine bodyPost_ret (v:=.agg #[.int .i64 (i0.tmod 21),.int .i64 (i1.tmod 21),.int .i64 (i2.tmod 21)]) (by simp [results,Tryz.results29,go_sem,Aa,Ab,Ac]) rfl ⟨rfl,?_⟩
 repeat' (first | exact hb | refine Below.setCell ?_ (by first | exact Nat.le_refl _ | (dsimp only;omega)) _)
set_option maxRecDepth 512 in
theorem eq_i3 (a b c x y z:Int) (w:World):(Op.equalIn 10000 48 (.agg #[.int .i64 a,.int .i64 b,.int .i64 c]) (.agg #[.int .i64 x,.int .i64 y,.int .i64 z])).run Tryz.prog w = .ok (a == x && (b == y && c == z)) w:=by
 have u3:=Tryz.underlying3
 have a3:=Tryz.isAgg3
 have z3:=Tryz.sizeOf3
 rw [show (10000:Nat)=9999+1 from rfl,Op.equalIn]
 simp only [Sem.run_bind,run_underlying Tryz.underlying48,Result.andThen_ok]
 simp only [Std.Legacy.Range.forIn_eq_forIn_range',Std.Legacy.Range.size,Nat.sub_zero,Nat.add_sub_cancel,Nat.div_one,List.range'_succ,List.range'_zero,List.forIn_cons,List.forIn_nil]
 go_simp
 by_cases h1:a=x <;> by_cases h2:b=y <;> by_cases h3:c=z <;> simp [h1,h2,h3]
theorem lzero_any (x y z:Int) (w:World) :
   Calls Tryz.prog 28 #[.agg #[.int .i64 x,.int .i64 y,.int .i64 z]] w (Ret w (.bool (x == 0 && (y == 0 && z == 0)))):=by
 have hb:=Below.refl w.heap.size w
 go_enter Tryz.func28,Tryz.ntmps28
 go_upto_region 1 with fail
 refine wp_alloc1 (fun w1 a0 hk=>?_)
 replace hb:=hb.trans (hk.mono hb.size)
 clear hk
 obtain ⟨Aa,Ab,Ac⟩:=ce3 a0
 have EQ:=eq_i3 x y z 0 0 0 w1
 go_wp2
 go_ret
 exact ⟨rfl,hb⟩
theorem ldot_any (x y z p q r:Int) (hx:x.natAbs≤1000) (hy:y.natAbs≤1000) (hz:z.natAbs≤1000) (hp:p.natAbs≤1000) (hq:q.natAbs≤1000) (hr:r.natAbs≤1000) (w:World) :
   Calls Tryz.prog 35 #[.agg #[.int .i64 x,.int .i64 y,.int .i64 z],.agg #[.int .i64 p,.int .i64 q,.int .i64 r]] w (Ret w (.int .i64 (x*p+y*q+z*r))):=by
 have m0:(x*p).natAbs≤1000000:=mulS hx hp (by decide)
 have m1:(y*q).natAbs≤1000000:=mulS hy hq (by decide)
 have m2:(z*r).natAbs≤1000000:=mulS hz hr (by decide)
 have g0:=wrapS (x*p) (by omega)
 have g1:=wrapS (y*q) (by omega)
 have g2:=wrapS (z*r) (by omega)
 have g3:=wrapS (x*p+y*q) (by omega)
 have g4:=wrapS (x*p+y*q+z*r) (by omega)
 have hb:=Below.refl w.heap.size w
 clear m0 m1 m2
 go_enter Tryz.func35,Tryz.ntmps35
 go_upto_region 1 with fail
 refine wp_alloc2 (fun w1 a0 a1 hk=>?_)
 replace hb:=hb.trans (hk.mono hb.size)
 clear hk
 obtain ⟨Aa,Ab,Ac⟩:=ce3 a0
 obtain ⟨Ad,Ae,Af⟩:=ce3 a1
 go_wp2
 go_ret
 exact ⟨rfl,hb⟩
end Go.Proofs.YtpiiclmkbplkhaaGreatDoor.Kl
