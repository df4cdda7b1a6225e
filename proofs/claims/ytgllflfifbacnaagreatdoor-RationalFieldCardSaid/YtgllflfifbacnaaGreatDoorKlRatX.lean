/- Mathematics: the laws of a field that RationalField asks for; the contract of klippelaw02.Make. -/
import Derived.Test.YtgllflfifbacnaaGreatDoorKlRatU
import Derived.Test.YtgllflfifbacnaaGreatDoorKlRatO
import Derived.Test.YtgllflfifbacnaaGreatDoorKlRatQ
import Derived.Test.YtgllflfifbacnaaGreatDoorKlKnown2
namespace Go.Proofs.YtgllflfifbacnaaGreatDoor.Kl
open Go Go.RowKit

theorem f_add (A B C : Rat) : C + (B + A) = A + B + C := by rw [Rat.add_comm C, Rat.add_comm B A]
theorem f_mul (A B C : Rat) : C * B * A = A * B * C := by rw [Rat.mul_comm (C*B) A, Rat.mul_comm C B, Rat.mul_assoc]
theorem f_dist (A B C : Rat) : A * B + A * C = A * (B + C) := (Rat.mul_add A B C).symm
theorem f_sub (A B : Rat) : A + B - B = A := by grind
theorem f_cadd (A B C : Rat) : (A + C) - (B + C) = A - B := by grind
theorem f_cmul (A B C : Rat) : A * C - B * C = (A - B) * C := by grind
theorem half2 : Rat.divInt 1 2 + Rat.divInt 1 2 = 1 := by decide +kernel
theorem f_mid1 (A B : Rat) : A - (A + B) * Rat.divInt 1 2 = (A - B) * Rat.divInt 1 2 := by
  have := half2
  generalize Rat.divInt 1 2 = h at *
  grind
theorem f_mid2 (A B : Rat) : (A + B) * Rat.divInt 1 2 - B = (A - B) * Rat.divInt 1 2 := by
  have := half2
  generalize Rat.divInt 1 2 = h at *
  grind
theorem sign_times (p q : Rat) : (p * q).num.sign = p.num.sign * q.num.sign := by
  rw [← mul_mk p q, mk_sign _ _ (by have := p.den_pos; have := q.den_pos; exact Int.natCast_pos.2 (Nat.mul_pos ‹_› ‹_›)), Int.sign_mul]
theorem sign_half (p : Rat) : (p * Rat.divInt 1 2).num.sign = p.num.sign := by
  rw [sign_times, show (Rat.divInt 1 2).num.sign = 1 by decide +kernel, Int.mul_one]
theorem sign_in (z : Int) : -1 ≤ z.sign ∧ z.sign ≤ 1 := by
  rcases Int.lt_trichotomy z 0 with h | h | h
  · rw [Int.sign_eq_neg_one_of_neg h]; decide
  · rw [h]; decide
  · rw [Int.sign_eq_one_of_pos h]; decide
theorem sign_wrap (z s : Int) (hz : -1 ≤ z ∧ z ≤ 1) (hs : -1 ≤ s ∧ s ≤ 1) : IntKind.i64.wrap (z * s) = z * s := by
  obtain rfl | rfl | rfl : z = -1 ∨ z = 0 ∨ z = 1 := by omega
  all_goals exact IntWalk.i64_in _ (by omega)
/-- The number of a description. -/
def fieldQ (a b : Int) : Rat := Rat.divInt a (1 + b)
theorem RL_field (a b : Int) (ha : -32768 ≤ a ∧ a ≤ 32767) (hb : 0 ≤ b ∧ b ≤ 255) : RL (fieldQ a b) 5 :=
  RL_mk _ _ 5 (by decide) (by omega) (dlen_le _ 5 (by decide) (by omega)) (dlen_le _ 5 (by decide) (by omega))
set_option maxRecDepth 100000 in
set_option maxHeartbeats 1000000 in
theorem make2_any (a b : Int) (ha : -32768 ≤ a ∧ a ≤ 32767) (hb' : 0 ≤ b ∧ b ≤ 255) (w : World) (R : EnvR w) :
    Calls Tryz.prog 60 #[.agg #[.int .i16 a, .int .u8 b]] w fun e w' => e = .returned (.string (ratB (fieldQ a b))) ∧ Below w.heap.size w w' := by
  have c1 : ∀ w, EnvR w → Calls Tryz.prog 25 #[.int .i64 a, .int .i64 (1 + b)] w fun e w' => e = .returned (.string (ratB (fieldQ a b))) ∧ Below w.heap.size w w' := fun w R => refROf_any a (1 + b) (by omega) (by omega) (by omega) (by omega) (by omega) w R
  obtain ⟨r, er⟩ : ∃ v, ratB (fieldQ a b) = v := ⟨_, rfl⟩
  try simp only [er] at c1 ⊢
  have C1 := Lib.hid c1
  clear c1 er
  have hb0' : Below w.heap.size w (w.alloc (Obj.cells #[Value.int .i16 a, Value.int .u8 b] 66)) := (Below.refl _ _).alloc (Nat.le_refl _) _
  have hb := hb0'
  clear hb0'
  have x0 : (w.alloc (Obj.cells #[Value.int .i16 a, Value.int .u8 b] 66)).cell? ⟨w.heap.size, 0, none⟩ = some (Value.int .i16 a) := by simp [go_sem]
  have x1 : (w.alloc (Obj.cells #[Value.int .i16 a, Value.int .u8 b] 66)).cell? ⟨w.heap.size, 1, none⟩ = some (Value.int .u8 b) := by simp [go_sem]
  go_enter Tryz.func60, Tryz.ntmps60
  go_wp2_with (go_at_call 25; ((with_reducible refine (chain2 hb (C1.out _ (R.below hb))).mono ?_); clear hb; rintro e w1 ⟨rfl, hk, hb⟩; replace x0 := below_cell hk x0; replace x1 := below_cell hk x1; clear hk))
  go_ret
  exact ⟨rfl, hb⟩
end Go.Proofs.YtgllflfifbacnaaGreatDoor.Kl
