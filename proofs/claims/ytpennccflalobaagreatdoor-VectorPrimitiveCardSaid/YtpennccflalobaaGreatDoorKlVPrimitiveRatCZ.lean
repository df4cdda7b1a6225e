import Derived.Test.YtpennccflalobaaGreatDoorKlBRatCZ
import Derived.Test.YtpennccflalobaaGreatDoorKlVPrimitiveRatK
namespace Go.Proofs.YtpennccflalobaaGreatDoor.Kl
open Go Go.RowKit
set_option maxRecDepth 100000
set_option maxHeartbeats 8000000
theorem cy6 {w:World} {b:Nat} {t:TypeId} {u0 u1 u2 u3 u4 u5:Value} (h:w.heap[b]? = some (.cells #[u0,u1,u2,u3,u4,u5] t)):(∀ d os,(Sort.grow (redrawn w d) os).cell? ⟨b,0,none⟩=some u0)∧(∀ d os,(Sort.grow (redrawn w d) os).cell? ⟨b,1,none⟩=some u1)∧(∀ d os,(Sort.grow (redrawn w d) os).cell? ⟨b,2,none⟩=some u2)∧(∀ d os,(Sort.grow (redrawn w d) os).cell? ⟨b,3,none⟩=some u3)∧(∀ d os,(Sort.grow (redrawn w d) os).cell? ⟨b,4,none⟩=some u4)∧(∀ d os,(Sort.grow (redrawn w d) os).cell? ⟨b,5,none⟩=some u5):=⟨zR (zA h),zR (zA h),zR (zA h),zR (zA h),zR (zA h),zR (zA h)⟩
theorem divInt_one (g:Int):Rat.divInt g 1=(g:Rat):=Rat.mkRat_one g
def fieldQ (a b:Int):Rat:=Rat.divInt a (1+b)
theorem make2_any (a b:Int) (ha : -32768≤a∧a≤32767) (hb':0≤b∧b≤255) (w:World) (R:EnvR w) :
   Calls Tryz.prog 31 #[.agg #[.int .i16 a,.int .u8 b]] w (Ret w (.string (ratB (fieldQ a b)))):=by
 have c1:CR 43 #[.int .i64 a,.int .i64 (1+b)] (.string (ratB (fieldQ a b))):=fun w R=>refROf_any a (1+b) (by omega) (by omega) (by omega) (by omega) (by omega) w R
 obtain ⟨r,er⟩:∃ v,ratB (fieldQ a b)=v:=⟨_,rfl⟩
 try simp only [er] at c1 ⊢
 have C1:=Lib.hid c1
 clear c1 er
 have hb0':Below w.heap.size w (w.alloc (Obj.cells #[Value.int .i16 a,Value.int .u8 b] 50)):=(Below.refl _ _).alloc (Nat.le_refl _) _
 have hb:=hb0'
 clear hb0'
 have x0:(w.alloc (Obj.cells #[Value.int .i16 a,Value.int .u8 b] 50)).cell? ⟨w.heap.size,0,none⟩=some (Value.int .i16 a):=by simp [go_sem]
 have x1:(w.alloc (Obj.cells #[Value.int .i16 a,Value.int .u8 b] 50)).cell? ⟨w.heap.size,1,none⟩=some (Value.int .u8 b):=by simp [go_sem]
 go_enter Tryz.func31,Tryz.ntmps31
 go_wp2_with (go_at_call 43;with_reducible refine (chRC hb R C1).mono ?_;clear hb;rintro e w1 ⟨rfl,hk,hb⟩;replace x0:=zC hk x0;replace x1:=zC hk x1;clear hk)
 go_ret
 exact ⟨rfl,hb⟩
end Go.Proofs.YtpennccflalobaaGreatDoor.Kl
