import Derived.Lib.QuietBelow
import Derived.Test.YtpphjnekkjeacaaGreatDoorKlSRootsBuf
import Derived.Test.YtpphjnekkjeacaaGreatDoorKlSRootsRatZ
namespace Go.Proofs.YtpphjnekkjeacaaGreatDoor.Kl
open Go Go.RowKit
set_option maxRecDepth 100000
set_option maxHeartbeats 8000000
theorem zR {w:World} {a:Addr} {v:Value} (h:w.cell? a=some v) (d:Nat) (os:Array Obj):(Sort.grow (redrawn w d) os).cell? a=some v:=cell_regrown h d os
theorem ismall_in (x:Int) (h0 : -9223372036854775808≤x) (h1:x≤9223372036854775807) (w:World) (R:EnvR w) :
   Calls Tryz.prog 149 #[.string (itoaB x)] w (Ret w (.tuple #[.int .i64 x,.bool true])):=
 (small_any (itoaB x) w (Nat.le_trans (itoaB_size x (Nat.le_trans (dlen_int x h0 h1) (by decide))) (by decide)) R.env).mono fun _ _ ⟨a,b⟩=>⟨a.trans (retIB (by
   unfold smI;rw [show (itoaB x).data.toList=Lib.itoa x from rfl,smallV_itoa x h0 h1];rfl) (by
   unfold smB;rw [show (itoaB x).data.toList=Lib.itoa x from rfl,smallV_itoa x h0 h1];rfl)),b⟩
theorem zC {w w':World} {p:Addr} {v:Value} (hk:Below w.heap.size w w') (x:w.cell? p=some v):w'.cell? p=some v:=(hk.cell (Lib.lt_of_cell x)).trans x
theorem RL_mulP {p q:Rat} {K M:Nat} (hK:0 < K) (hp:RL p K) (hq:RL q M):RL (p*q) (K+M):=by
 rw [← mul_mk]
 have:=Nat.mul_pos p.den_pos q.den_pos
 exact RL_mk _ _ _ (by omega) (by omega) (dlen_mul _ _ _ _ (by omega) hp.1 hq.1) (by rw [Int.natCast_mul];exact dlen_mul _ _ _ _ (by omega) hp.2 hq.2)
end Go.Proofs.YtpphjnekkjeacaaGreatDoor.Kl
