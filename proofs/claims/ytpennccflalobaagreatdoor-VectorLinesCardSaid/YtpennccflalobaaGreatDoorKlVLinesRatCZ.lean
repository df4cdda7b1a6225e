import Derived.Test.YtpennccflalobaaGreatDoorKlBRatCZ
import Derived.Test.YtpennccflalobaaGreatDoorKlVLinesRatS
namespace Go.Proofs.YtpennccflalobaaGreatDoor.Kl
open Go Go.RowKit
set_option maxRecDepth 100000
set_option maxHeartbeats 8000000
theorem cy6 {w:World} {b:Nat} {t:TypeId} {u0 u1 u2 u3 u4 u5:Value} (h:w.heap[b]? = some (.cells #[u0,u1,u2,u3,u4,u5] t)):(∀ d os,(Sort.grow (redrawn w d) os).cell? ⟨b,0,none⟩=some u0)∧(∀ d os,(Sort.grow (redrawn w d) os).cell? ⟨b,1,none⟩=some u1)∧(∀ d os,(Sort.grow (redrawn w d) os).cell? ⟨b,2,none⟩=some u2)∧(∀ d os,(Sort.grow (redrawn w d) os).cell? ⟨b,3,none⟩=some u3)∧(∀ d os,(Sort.grow (redrawn w d) os).cell? ⟨b,4,none⟩=some u4)∧(∀ d os,(Sort.grow (redrawn w d) os).cell? ⟨b,5,none⟩=some u5):=⟨zR (zA h),zR (zA h),zR (zA h),zR (zA h),zR (zA h),zR (zA h)⟩
theorem cy12 {w:World} {b:Nat} {t:TypeId} {u0 u1 u2 u3 u4 u5 u6 u7 u8 u9 u10 u11:Value} (h:w.heap[b]? = some (.cells #[u0,u1,u2,u3,u4,u5,u6,u7,u8,u9,u10,u11] t)):(∀ d os,(Sort.grow (redrawn w d) os).cell? ⟨b,0,none⟩=some u0)∧(∀ d os,(Sort.grow (redrawn w d) os).cell? ⟨b,1,none⟩=some u1)∧(∀ d os,(Sort.grow (redrawn w d) os).cell? ⟨b,2,none⟩=some u2)∧(∀ d os,(Sort.grow (redrawn w d) os).cell? ⟨b,3,none⟩=some u3)∧(∀ d os,(Sort.grow (redrawn w d) os).cell? ⟨b,4,none⟩=some u4)∧(∀ d os,(Sort.grow (redrawn w d) os).cell? ⟨b,5,none⟩=some u5)∧(∀ d os,(Sort.grow (redrawn w d) os).cell? ⟨b,6,none⟩=some u6)∧(∀ d os,(Sort.grow (redrawn w d) os).cell? ⟨b,7,none⟩=some u7)∧(∀ d os,(Sort.grow (redrawn w d) os).cell? ⟨b,8,none⟩=some u8)∧(∀ d os,(Sort.grow (redrawn w d) os).cell? ⟨b,9,none⟩=some u9)∧(∀ d os,(Sort.grow (redrawn w d) os).cell? ⟨b,10,none⟩=some u10)∧(∀ d os,(Sort.grow (redrawn w d) os).cell? ⟨b,11,none⟩=some u11):=⟨zR (zA h),zR (zA h),zR (zA h),zR (zA h),zR (zA h),zR (zA h),zR (zA h),zR (zA h),zR (zA h),zR (zA h),zR (zA h),zR (zA h)⟩
theorem rdiv_zero (a:ByteArray) (w:World) (R:EnvR w) :
   Calls Tryz.prog 111 #[.string a,.string (ratB 0)] w (Ret w (.tuple #[.string ⟨#[]⟩,.int .i64 17])):=by
 have c1:CR 87 #[.string (ratB 0)] (.tuple #[.string (itoaB 0),.string (itoaB 1)]):=fun w R=>rparts_any 0 w R (by unfold RL;decide +kernel)
 have c2:=fun (w:World) (R:EnvR w)=>sign_any 0 w
 obtain ⟨n,en⟩:∃ v,itoaB 0=v:=⟨_,rfl⟩
 try simp only [en] at c1 c2 ⊢
 obtain ⟨d,ed⟩:∃ v,itoaB 1=v:=⟨_,rfl⟩
 try simp only [ed] at c1 c2 ⊢
 obtain ⟨b,eb⟩:∃ v,ratB 0=v:=⟨_,rfl⟩
 try simp only [eb] at c1 c2 ⊢
 have C1:=Lib.hid c1
 have C2:=Lib.hid c2
 clear c1 c2 en ed eb
 have hb:=Below.refl w.heap.size w
 go_enter Tryz.func111,Tryz.ntmps111
 go_wp2_with ((first | (go_at_call 87;with_reducible refine (chRA hb R C1).mono ?_) | (go_at_call 152;with_reducible refine (chRA hb R C2).mono ?_));clear hb;rintro e w1 ⟨rfl,hb⟩)
 go_ret2
 exact ⟨rfl,hb⟩
theorem sign_times (p q:Rat):(p*q).num.sign=p.num.sign*q.num.sign:=by
 rw [← mul_mk p q,mk_sign _ _ (by have:=p.den_pos;have:=q.den_pos;exact Int.natCast_pos.2 (Nat.mul_pos ‹_› ‹_›)),Int.sign_mul]
theorem sign_in (z:Int) : -1≤z.sign∧z.sign≤1:=by
 rcases Int.lt_trichotomy z 0 with h | h | h
 · rw [Int.sign_eq_neg_one_of_neg h];decide
 · rw [h];decide
 · rw [Int.sign_eq_one_of_pos h];decide
theorem sign_wrap (z s:Int) (hz : -1≤z∧z≤1) (hs : -1≤s∧s≤1):IntKind.i64.wrap (z*s)=z*s:=by
 obtain rfl | rfl | rfl:z = -1∨z=0∨z=1:=by omega
 all_goals exact IntWalk.i64_in _ (by omega)
def fieldQ (a b:Int):Rat:=Rat.divInt a (1+b)
theorem make2_any (a b:Int) (ha : -32768≤a∧a≤32767) (hb':0≤b∧b≤255) (w:World) (R:EnvR w) :
   Calls Tryz.prog 31 #[.agg #[.int .i16 a,.int .u8 b]] w (Ret w (.string (ratB (fieldQ a b)))):=by
 have c1:CR 43 #[.int .i64 a,.int .i64 (1+b)] (.string (ratB (fieldQ a b))):=fun w R=>refROf_any a (1+b) (by omega) (by omega) (by omega) (by omega) (by omega) w R
 obtain ⟨r,er⟩:∃ v,ratB (fieldQ a b)=v:=⟨_,rfl⟩
 try simp only [er] at c1 ⊢
 have C1:=Lib.hid c1
 clear c1 er
 have hb0':Below w.heap.size w (w.alloc (Obj.cells #[Value.int .i16 a,Value.int .u8 b] 50)):=(Below.refl _ _).alloc (Nat.le_refl _) _
 have hb:=hb0'
 clear hb0'
 have x0:(w.alloc (Obj.cells #[Value.int .i16 a,Value.int .u8 b] 50)).cell? ⟨w.heap.size,0,none⟩=some (Value.int .i16 a):=by simp [go_sem]
 have x1:(w.alloc (Obj.cells #[Value.int .i16 a,Value.int .u8 b] 50)).cell? ⟨w.heap.size,1,none⟩=some (Value.int .u8 b):=by simp [go_sem]
 go_enter Tryz.func31,Tryz.ntmps31
 go_wp2_with (go_at_call 43;with_reducible refine (chRC hb R C1).mono ?_;clear hb;rintro e w1 ⟨rfl,hk,hb⟩;replace x0:=zC hk x0;replace x1:=zC hk x1;clear hk)
 go_ret
 exact ⟨rfl,hb⟩
end Go.Proofs.YtpennccflalobaaGreatDoor.Kl
