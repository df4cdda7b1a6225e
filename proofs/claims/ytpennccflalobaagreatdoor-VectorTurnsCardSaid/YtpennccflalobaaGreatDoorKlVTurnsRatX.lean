import Derived.Test.YtpennccflalobaaGreatDoorKlVTurnsRatCZ
namespace Go.Proofs.YtpennccflalobaaGreatDoor.Kl
open Go Go.RowKit
set_option maxRecDepth 100000
set_option maxHeartbeats 8000000
theorem sign_times (p q:Rat):(p*q).num.sign=p.num.sign*q.num.sign:=by
 rw [← mul_mk p q,mk_sign _ _ (by have:=p.den_pos;have:=q.den_pos;exact Int.natCast_pos.2 (Nat.mul_pos ‹_› ‹_›)),Int.sign_mul]
theorem sign_in (z:Int) : -1≤z.sign∧z.sign≤1:=by
 rcases Int.lt_trichotomy z 0 with h | h | h
 · rw [Int.sign_eq_neg_one_of_neg h];decide
 · rw [h];decide
 · rw [Int.sign_eq_one_of_pos h];decide
theorem sign_wrap (z s:Int) (hz : -1≤z∧z≤1) (hs : -1≤s∧s≤1):IntKind.i64.wrap (z*s)=z*s:=by
 obtain rfl | rfl | rfl:z = -1∨z=0∨z=1:=by omega
 all_goals exact IntWalk.i64_in _ (by omega)
def fieldQ (a b:Int):Rat:=Rat.divInt a (1+b)
theorem make2_any (a b:Int) (ha : -32768≤a∧a≤32767) (hb':0≤b∧b≤255) (w:World) (R:EnvR w) :
   Calls Tryz.prog 31 #[.agg #[.int .i16 a,.int .u8 b]] w (Ret w (.string (ratB (fieldQ a b)))):=by
 have c1:CR 43 #[.int .i64 a,.int .i64 (1+b)] (.string (ratB (fieldQ a b))):=fun w R=>refROf_any a (1+b) (by omega) (by omega) (by omega) (by omega) (by omega) w R
 obtain ⟨r,er⟩:∃ v,ratB (fieldQ a b)=v:=⟨_,rfl⟩
 try simp only [er] at c1 ⊢
 have C1:=Lib.hid c1
 clear c1 er
 have hb0':Below w.heap.size w (w.alloc (Obj.cells #[Value.int .i16 a,Value.int .u8 b] 50)):=(Below.refl _ _).alloc (Nat.le_refl _) _
 have hb:=hb0'
 clear hb0'
 have x0:(w.alloc (Obj.cells #[Value.int .i16 a,Value.int .u8 b] 50)).cell? ⟨w.heap.size,0,none⟩=some (Value.int .i16 a):=by simp [go_sem]
 have x1:(w.alloc (Obj.cells #[Value.int .i16 a,Value.int .u8 b] 50)).cell? ⟨w.heap.size,1,none⟩=some (Value.int .u8 b):=by simp [go_sem]
 go_enter Tryz.func31,Tryz.ntmps31
 go_wp2_with (go_at_call 43;with_reducible refine (chRC hb R C1).mono ?_;clear hb;rintro e w1 ⟨rfl,hk,hb⟩;replace x0:=zC hk x0;replace x1:=zC hk x1;clear hk)
 go_ret
 exact ⟨rfl,hb⟩
end Go.Proofs.YtpennccflalobaaGreatDoor.Kl
