/- Contracts: package rational's Div. -/
import Derived.Test.YtgllflfifbacnaaGreatDoorKlRatV
namespace Go.Proofs.YtgllflfifbacnaaGreatDoor.Kl
open Go Go.RowKit

theorem inv_parts (q : Rat) (h : 0 < q.num) : q⁻¹.num = (q.den : Int) ∧ (q⁻¹.den : Int) = q.num := by
  constructor
  · rw [Rat.num_inv, Int.sign_eq_one_of_pos h, Int.one_mul]
  · rw [Rat.den_inv, if_neg (by omega)]; omega
theorem inv_parts' (q : Rat) (h : q.num < 0) : q⁻¹.num = -(q.den : Int) ∧ (q⁻¹.den : Int) = -q.num := by
  constructor
  · rw [Rat.num_inv, Int.sign_eq_neg_one_of_neg h]; omega
  · rw [Rat.den_inv, if_neg (by omega)]; omega
set_option maxRecDepth 100000 in
set_option maxHeartbeats 200000 in
theorem rdiv_zero (a : ByteArray) (w : World) (R : EnvR w) :
    Calls Tryz.prog 51 #[.string a, .string (ratB 0)] w fun e w' => e = .returned (.tuple #[.string ⟨#[]⟩, .int .i64 17]) ∧ Below w.heap.size w w' := by
  have c1 : ∀ w, EnvR w → Calls Tryz.prog 17 #[.string (ratB 0)] w fun e w' => e = .returned (.tuple #[.string (itoaB 0), .string (itoaB 1)]) ∧ Below w.heap.size w w' := fun w R => rparts_any 0 w R (by unfold RL; decide +kernel)
  have c2 : ∀ w, EnvR w → Calls Tryz.prog 73 #[.string (itoaB 0)] w fun e w' => e = .returned (.int .i64 0) ∧ Below w.heap.size w w' := fun w R => sign_any 0 w
  obtain ⟨n, en⟩ : ∃ v, itoaB 0 = v := ⟨_, rfl⟩
  try simp only [en] at c1 c2 ⊢
  obtain ⟨d, ed⟩ : ∃ v, itoaB 1 = v := ⟨_, rfl⟩
  try simp only [ed] at c1 c2 ⊢
  obtain ⟨b, eb⟩ : ∃ v, ratB 0 = v := ⟨_, rfl⟩
  try simp only [eb] at c1 c2 ⊢
  have C1 := Lib.hid c1
  have C2 := Lib.hid c2
  clear c1 c2 en ed eb
  have hb := Below.refl w.heap.size w
  go_enter Tryz.func51, Tryz.ntmps51
  go_wp2_with (first | (go_at_call 17; ((with_reducible refine (chain hb (C1.out _ (R.below hb))).mono ?_); clear hb; rintro e w1 ⟨rfl, hb⟩)) | (go_at_call 73; ((with_reducible refine (chain hb (C2.out _ (R.below hb))).mono ?_); clear hb; rintro e w1 ⟨rfl, hb⟩)))
  go_ret2
  exact ⟨rfl, hb⟩
set_option maxRecDepth 100000 in
set_option maxHeartbeats 200000 in
theorem rdiv_pos (p q : Rat) (hp : RL p 10000) (hq : RL q 10000) (h : 0 < q.num) (w : World) (R : EnvR w) :
    Calls Tryz.prog 51 #[.string (ratB p), .string (ratB q)] w fun e w' => e = .returned (.tuple #[.string (ratB (p / q)), .int .i64 0]) ∧ Below w.heap.size w w' := by
  have c1 : ∀ w, EnvR w → Calls Tryz.prog 17 #[.string (ratB q)] w fun e w' => e = .returned (.tuple #[.string (itoaB q.num), .string (itoaB q.den)]) ∧ Below w.heap.size w w' := fun w R => rparts_any q w R (hq.mono (by decide))
  have c2 : ∀ w, EnvR w → Calls Tryz.prog 73 #[.string (itoaB q.num)] w fun e w' => e = .returned (.int .i64 1) ∧ Below w.heap.size w w' := fun w R => by have := sign_any q.num w; rwa [Int.sign_eq_one_of_pos h] at this
  have c3 : ∀ w, EnvR w → Calls Tryz.prog 75 #[.string (itoaB q.den), .string (itoaB q.num)] w fun e w' => e = .returned (.string (ratB q⁻¹)) ∧ Below w.heap.size w w' := fun w R => join_any q⁻¹ _ _ (inv_parts q h).1 (inv_parts q h).2 w R ((RL_inv hq (by omega)).mono (by decide))
  have c4 : ∀ w, EnvR w → Calls Tryz.prog 52 #[.string (ratB p), .string (ratB q⁻¹)] w fun e w' => e = .returned (.string (ratB (p / q))) ∧ Below w.heap.size w w' := fun w R => by rw [Rat.div_def]; exact rmul_any p q⁻¹ hp (RL_inv hq (by omega)) w R
  obtain ⟨r, er⟩ : ∃ v, ratB (p / q) = v := ⟨_, rfl⟩
  try simp only [er] at c1 c2 c3 c4 ⊢
  obtain ⟨c, ec⟩ : ∃ v, ratB q⁻¹ = v := ⟨_, rfl⟩
  try simp only [ec] at c1 c2 c3 c4 ⊢
  obtain ⟨n, en⟩ : ∃ v, itoaB q.num = v := ⟨_, rfl⟩
  try simp only [en] at c1 c2 c3 c4 ⊢
  obtain ⟨d, ed⟩ : ∃ v, itoaB (q.den : Int) = v := ⟨_, rfl⟩
  try simp only [ed] at c1 c2 c3 c4 ⊢
  obtain ⟨a, ea⟩ : ∃ v, ratB p = v := ⟨_, rfl⟩
  try simp only [ea] at c1 c2 c3 c4 ⊢
  obtain ⟨b, eb⟩ : ∃ v, ratB q = v := ⟨_, rfl⟩
  try simp only [eb] at c1 c2 c3 c4 ⊢
  have C1 := Lib.hid c1
  have C2 := Lib.hid c2
  have C3 := Lib.hid c3
  have C4 := Lib.hid c4
  clear c1 c2 c3 c4 er ec en ed ea eb hp hq h
  have hb := Below.refl w.heap.size w
  go_enter Tryz.func51, Tryz.ntmps51
  go_wp2_with (first | (go_at_call 17; ((with_reducible refine (chain hb (C1.out _ (R.below hb))).mono ?_); clear hb; rintro e w1 ⟨rfl, hb⟩)) | (go_at_call 73; ((with_reducible refine (chain hb (C2.out _ (R.below hb))).mono ?_); clear hb; rintro e w1 ⟨rfl, hb⟩)) | (go_at_call 75; ((with_reducible refine (chain hb (C3.out _ (R.below hb))).mono ?_); clear hb; rintro e w1 ⟨rfl, hb⟩)) | (go_at_call 52; ((with_reducible refine (chain hb (C4.out _ (R.below hb))).mono ?_); clear hb; rintro e w1 ⟨rfl, hb⟩)))
  go_ret2
  exact ⟨rfl, hb⟩
set_option maxRecDepth 100000 in
set_option maxHeartbeats 200000 in
theorem rdiv_neg (p q : Rat) (hp : RL p 10000) (hq : RL q 10000) (h : q.num < 0) (w : World) (R : EnvR w) :
    Calls Tryz.prog 51 #[.string (ratB p), .string (ratB q)] w fun e w' => e = .returned (.tuple #[.string (ratB (p / q)), .int .i64 0]) ∧ Below w.heap.size w w' := by
  have c1 : ∀ w, EnvR w → Calls Tryz.prog 17 #[.string (ratB q)] w fun e w' => e = .returned (.tuple #[.string (itoaB q.num), .string (itoaB q.den)]) ∧ Below w.heap.size w w' := fun w R => rparts_any q w R (hq.mono (by decide))
  have c2 : ∀ w, EnvR w → Calls Tryz.prog 73 #[.string (itoaB q.num)] w fun e w' => e = .returned (.int .i64 (-1)) ∧ Below w.heap.size w w' := fun w R => by have := sign_any q.num w; rwa [Int.sign_eq_neg_one_of_neg h] at this
  have c3 : ∀ w, EnvR w → Calls Tryz.prog 74 #[.string (itoaB q.num)] w fun e w' => e = .returned (.string (itoaB (-q.num))) ∧ Below w.heap.size w w' := fun w R => neg_any _ w (Nat.le_trans hq.1 (by decide))
  have c4 : ∀ w, EnvR w → Calls Tryz.prog 74 #[.string (itoaB (q.den : Int))] w fun e w' => e = .returned (.string (itoaB (-(q.den : Int)))) ∧ Below w.heap.size w w' := fun w R => neg_any _ w (Nat.le_trans hq.2 (by decide))
  have c5 : ∀ w, EnvR w → Calls Tryz.prog 75 #[.string (itoaB (-(q.den : Int))), .string (itoaB (-q.num))] w fun e w' => e = .returned (.string (ratB q⁻¹)) ∧ Below w.heap.size w w' := fun w R => join_any q⁻¹ _ _ (inv_parts' q h).1 (inv_parts' q h).2 w R ((RL_inv hq (by omega)).mono (by decide))
  have c6 : ∀ w, EnvR w → Calls Tryz.prog 52 #[.string (ratB p), .string (ratB q⁻¹)] w fun e w' => e = .returned (.string (ratB (p / q))) ∧ Below w.heap.size w w' := fun w R => by rw [Rat.div_def]; exact rmul_any p q⁻¹ hp (RL_inv hq (by omega)) w R
  obtain ⟨r, er⟩ : ∃ v, ratB (p / q) = v := ⟨_, rfl⟩
  try simp only [er] at c1 c2 c3 c4 c5 c6 ⊢
  obtain ⟨c, ec⟩ : ∃ v, ratB q⁻¹ = v := ⟨_, rfl⟩
  try simp only [ec] at c1 c2 c3 c4 c5 c6 ⊢
  obtain ⟨n', en'⟩ : ∃ v, itoaB (-q.num) = v := ⟨_, rfl⟩
  try simp only [en'] at c1 c2 c3 c4 c5 c6 ⊢
  obtain ⟨d', ed'⟩ : ∃ v, itoaB (-(q.den : Int)) = v := ⟨_, rfl⟩
  try simp only [ed'] at c1 c2 c3 c4 c5 c6 ⊢
  obtain ⟨n, en⟩ : ∃ v, itoaB q.num = v := ⟨_, rfl⟩
  try simp only [en] at c1 c2 c3 c4 c5 c6 ⊢
  obtain ⟨d, ed⟩ : ∃ v, itoaB (q.den : Int) = v := ⟨_, rfl⟩
  try simp only [ed] at c1 c2 c3 c4 c5 c6 ⊢
  obtain ⟨a, ea⟩ : ∃ v, ratB p = v := ⟨_, rfl⟩
  try simp only [ea] at c1 c2 c3 c4 c5 c6 ⊢
  obtain ⟨b, eb⟩ : ∃ v, ratB q = v := ⟨_, rfl⟩
  try simp only [eb] at c1 c2 c3 c4 c5 c6 ⊢
  have C1 := Lib.hid c1
  have C2 := Lib.hid c2
  have C3 := Lib.hid c3
  have C4 := Lib.hid c4
  have C5 := Lib.hid c5
  have C6 := Lib.hid c6
  clear c1 c2 c3 c4 c5 c6 er ec en' ed' en ed ea eb hp hq h
  have hb := Below.refl w.heap.size w
  go_enter Tryz.func51, Tryz.ntmps51
  go_wp2_with (first | (go_at_call 17; ((with_reducible refine (chain hb (C1.out _ (R.below hb))).mono ?_); clear hb; rintro e w1 ⟨rfl, hb⟩)) | (go_at_call 73; ((with_reducible refine (chain hb (C2.out _ (R.below hb))).mono ?_); clear hb; rintro e w1 ⟨rfl, hb⟩)) | (go_at_call 74; first | ((with_reducible refine (chain hb (C3.out _ (R.below hb))).mono ?_); clear hb; rintro e w1 ⟨rfl, hb⟩) | ((with_reducible refine (chain hb (C4.out _ (R.below hb))).mono ?_); clear hb; rintro e w1 ⟨rfl, hb⟩)) | (go_at_call 75; ((with_reducible refine (chain hb (C5.out _ (R.below hb))).mono ?_); clear hb; rintro e w1 ⟨rfl, hb⟩)) | (go_at_call 52; ((with_reducible refine (chain hb (C6.out _ (R.below hb))).mono ?_); clear hb; rintro e w1 ⟨rfl, hb⟩)))
  go_ret2
  exact ⟨rfl, hb⟩
theorem rdiv_any (p q : Rat) (hp : RL p 10000) (hq : RL q 10000) (h : q ≠ 0) (w : World) (R : EnvR w) :
    Calls Tryz.prog 51 #[.string (ratB p), .string (ratB q)] w fun e w' => e = .returned (.tuple #[.string (ratB (p / q)), .int .i64 0]) ∧ Below w.heap.size w w' := by
  rcases Int.lt_trichotomy q.num 0 with h1 | h1 | h1
  · exact rdiv_neg p q hp hq h1 w R
  · exact absurd (Rat.num_eq_zero.1 h1) h
  · exact rdiv_pos p q hp hq h1 w R
end Go.Proofs.YtgllflfifbacnaaGreatDoor.Kl
