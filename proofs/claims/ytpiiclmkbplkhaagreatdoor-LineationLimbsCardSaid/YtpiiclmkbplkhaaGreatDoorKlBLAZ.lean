import Derived.Lib.MinMax
import Derived.Test.YtpiiclmkbplkhaaGreatDoorKlBVKZ
namespace Go.Proofs.YtpiiclmkbplkhaaGreatDoor.Kl
open Go Go.RowKit
set_option maxRecDepth 100000
set_option maxHeartbeats 8000000
theorem wrapS (x:Int) (h:x.natAbs≤1000000000000):IntKind.i64.wrap x=x:=IntWalk.i64_in _ (by omega)
theorem mulS {a m n:Nat} {x y:Int} (hx:x.natAbs≤m) (hy:y.natAbs≤n) (h:m*n≤a):(x*y).natAbs≤a:=by
 rw [Int.natAbs_mul];exact Nat.le_trans (Nat.mul_le_mul hx hy) h
def octI (x y:Int):Int:=if x=0∧0 < y then 0 else if 0 < x∧0 < y then 1 else if 0 < x∧y=0 then 2 else if 0 < x then 3 else if x=0 then 4 else if y < 0 then 5 else if y=0 then 6 else 7
theorem lvector_any (a b c:Int) (ha:a.natAbs≤1000000000) (hb':b.natAbs≤1000000000) (hc:c.natAbs≤1000000000) (w:World) (R:EnvV w) :
   Calls Tryz.prog 40 #[.int .i64 a,.int .i64 b,.int .i64 c] w (Ret w (.agg #[.string (itoaB a),.string (itoaB b),.string (itoaB c)])):=by
 have c1:=fun (w:World) (R:EnvV w)=>rwhole_any a (by omega) (by omega) w R.toEnvR
 have c2:=fun (w:World) (R:EnvV w)=>rwhole_any b (by omega) (by omega) w R.toEnvR
 have c3:=fun (w:World) (R:EnvV w)=>rwhole_any c (by omega) (by omega) w R.toEnvR
 obtain ⟨Ag,et0⟩:∃ vq,itoaB a=vq:=⟨_,rfl⟩
 obtain ⟨Ah,et1⟩:∃ vq,itoaB b=vq:=⟨_,rfl⟩
 obtain ⟨Ai,et2⟩:∃ vq,itoaB c=vq:=⟨_,rfl⟩
 simp only [et0,et1,et2] at c1 c2 c3 ⊢
 have C1:=Lib.hid c1
 have C2:=Lib.hid c2
 have C3:=Lib.hid c3
 clear c1 c2 c3 et0 et1 et2
 have hb:=Below.refl w.heap.size w
 go_enter Tryz.func40,Tryz.ntmps40
 go_upto_region 1 with fail
 refine wp_alloc1 (fun w1 a0 hk=>?_)
 replace hb:=hb.trans (hk.mono hb.size)
 clear hk
 obtain ⟨Aa,Ad,Ab,Ae,Ac,Af⟩:=cf3 a0
 go_wp2_with ((go_at_call 71;first | with_reducible refine (chVB hb R C1).mono ?_ | with_reducible refine (chVB hb R C2).mono ?_ | with_reducible refine (chVB hb R C3).mono ?_);clear hb;rintro e w1 ⟨rfl,hk1,hb⟩;replace Aa:=zC hk1 Aa;replace Ad:=zF hk1 a0 Ad;replace Ab:=zC hk1 Ab;replace Ae:=zF hk1 a0 Ae;replace Ac:=zC hk1 Ac;replace Af:=zF hk1 a0 Af;replace a0:=zB hk1 a0;clear hk1)
 refine bodyPost_ret (v:=.agg #[.string Ag,.string Ah,.string Ai]) (by simp [results,Tryz.results40,go_sem,Aa,Ab,Ac]) rfl ⟨rfl,?_⟩
 repeat' (first | exact hb | refine Below.setCell ?_ (by first | exact Nat.le_refl _ | (dsimp only;omega)) _)
end Go.Proofs.YtpiiclmkbplkhaaGreatDoor.Kl
