/- Contracts: DivMod, Gcd, Mul where both are ints of at most 18 bytes. -/
import Derived.Test.YtkekdcmonenciaaGreatDoorKlInt3
namespace Go.Proofs.YtkekdcmonenciaaGreatDoor.Kl
open Go Go.RowKit

theorem retSSI {k : IntKind} {a b c d : ByteArray} {x y : Int} (h : a = b) (g : c = d) (i : x = y) : Ending.returned (.tuple #[.string a, .string c, .int k x]) = .returned (.tuple #[.string b, .string d, .int k y]) := by rw [h, g, i]

set_option maxHeartbeats 1000000 in
theorem divMod_short (s t : ByteArray) (w : World) (hs : s.size ≤ 18) (ht : t.size ≤ 18) (x y : Int) (hx : smallV s.data.toList = some x) (hy : smallV t.data.toList = some y) (E : Env w)
    (hx0 : -1000000000000000000 < x) (hx1 : x < 1000000000000000000) (hy0 : -1000000000000000000 < y) (hy1 : y < 1000000000000000000) (hyz : y ≠ 0) :
    Calls Tryz.prog 22 #[.string s, .string t] w fun e w' => e = .returned (.tuple #[.string (itoaB (x / y)), .string (itoaB (x % y)), .int .i64 0]) ∧ Below w.heap.size w w' := by
  have hy' : (y == 0) = false := by simpa using hyz
  have hb := Below.refl w.heap.size w
  have HX := Lib.hid hx
  have HY := Lib.hid hy
  clear hx hy
  have q : -1000000000000000000 < x / y ∧ x / y < 1000000000000000000 := by have := Int.natAbs_ediv_le_natAbs x y; omega
  have r : 0 ≤ x % y ∧ x % y < 1000000000000000000 := by have h1 := Int.emod_nonneg x hyz; have h2 := Int.emod_lt x hyz; omega
  go_enter Tryz.func22, Tryz.ntmps22
  go_wp2_with (first | (go_at_call 36; refine (chain hb (ints_short _ _ _ hs ht _ _ HX.out HY.out (E.below hb))).mono ?_; clear hb; rintro e w1 ⟨rfl, hb⟩) | (go_at_call 53; refine (chain hb (divideInts_any _ _ _ hx0 hx1 hy0 hy1 hyz)).mono ?_; clear hb; rintro e w1 ⟨rfl, hb⟩) | (go_at_call 37; refine (chain hb (of_any _ (by omega) (by omega) _ (E.below hb))).mono ?_; clear hb; rintro e w1 ⟨rfl, hb⟩))
  go_ret3
  exact ⟨retSSI rfl rfl rfl, hb⟩

/-- The greatest common divisor of magnitudes, as the walk spells them. -/
theorem gcdInts_max (x y : Int) (w : World) (hx0 : -1000000000000000000 < x) (hx1 : x < 1000000000000000000) (hy0 : -1000000000000000000 < y) (hy1 : y < 1000000000000000000) :
    Calls Tryz.prog 58 #[.int .i64 (max x (-x)), .int .i64 (max y (-y))] w fun e w' => e = .returned (.int .i64 (Nat.gcd x.natAbs y.natAbs)) ∧ Below w.heap.size w w' := by
  have e1 : max x (-x) = (x.natAbs : Int) := by omega
  have e2 : max y (-y) = (y.natAbs : Int) := by omega
  rw [e1, e2]
  exact gcdInts_any _ _ w (by omega) (by omega)

set_option maxHeartbeats 1000000 in
theorem gcd_short (s t : ByteArray) (w : World) (hs : s.size ≤ 18) (ht : t.size ≤ 18) (x y : Int) (hx : smallV s.data.toList = some x) (hy : smallV t.data.toList = some y) (E : Env w)
    (hx0 : -1000000000000000000 < x) (hx1 : x < 1000000000000000000) (hy0 : -1000000000000000000 < y) (hy1 : y < 1000000000000000000) :
    Calls Tryz.prog 24 #[.string s, .string t] w fun e w' => e = .returned (.string (itoaB (Nat.gcd x.natAbs y.natAbs))) ∧ Below w.heap.size w w' := by
  have hb := Below.refl w.heap.size w
  have hg : (Nat.gcd x.natAbs y.natAbs : Int) ≤ 1000000000000000000 := by
    rcases Nat.eq_zero_or_pos x.natAbs with e | e
    · rw [e, Nat.gcd_zero_left]; omega
    · have := Nat.gcd_le_left y.natAbs e; omega
  have HX := Lib.hid hx
  have HY := Lib.hid hy
  clear hx hy
  go_enter Tryz.func24, Tryz.ntmps24
  go_wp2_with (first | (go_at_call 36; refine (chain hb (ints_short _ _ _ hs ht _ _ HX.out HY.out (E.below hb))).mono ?_; clear hb; rintro e w1 ⟨rfl, hb⟩) | (go_at_call 58; refine (chain hb (gcdInts_max _ _ _ hx0 hx1 hy0 hy1)).mono ?_; clear hb; rintro e w1 ⟨rfl, hb⟩) | (go_at_call 37; refine (chain hb (of_any _ (by omega) (by omega) _ (E.below hb))).mono ?_; clear hb; rintro e w1 ⟨rfl, hb⟩))
  go_ret
  exact ⟨retS rfl, hb⟩

set_option maxHeartbeats 1000000 in
theorem mul_short (s t : ByteArray) (w : World) (hst : s.size + t.size ≤ 18) (x y : Int) (hx : smallV s.data.toList = some x) (hy : smallV t.data.toList = some y) (E : Env w)
    (h0 : -9223372036854775808 ≤ x * y) (h1 : x * y ≤ 9223372036854775807) :
    Calls Tryz.prog 17 #[.string s, .string t] w fun e w' => e = .returned (.string (itoaB (x * y))) ∧ Below w.heap.size w w' := by
  have hb := Below.refl w.heap.size w
  have HX := Lib.hid hx
  have HY := Lib.hid hy
  clear hx hy
  go_enter Tryz.func17, Tryz.ntmps17
  go_wp2_with (first | (go_at_call 36; refine (chain hb (ints_short _ _ _ (by omega) (by omega) _ _ HX.out HY.out (E.below hb))).mono ?_; clear hb; rintro e w1 ⟨rfl, hb⟩) | (go_at_call 37; refine (chain hb (of_any _ (by omega) (by omega) _ (E.below hb))).mono ?_; clear hb; rintro e w1 ⟨rfl, hb⟩))
  go_ret
  exact ⟨retS rfl, hb⟩
end Go.Proofs.YtkekdcmonenciaaGreatDoor.Kl
