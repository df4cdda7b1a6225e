/- The walk of klippelaw02.RationalDecimals: true, whatever the texts. -/
import Derived.Test.YtgllflfifbacnaaGreatDoorKlRatN
import Derived.Test.YtgllflfifbacnaaGreatDoorKlRatS
import Derived.Test.YtgllflfifbacnaaGreatDoorKlKnown2
import Derived.Test.YtgllflfifbacnaaGreatDoorKlRatE
namespace Go.Proofs.YtgllflfifbacnaaGreatDoor.Kl
open Go Go.RowKit

set_option maxRecDepth 100000 in
set_option maxHeartbeats 2000000 in
theorem lawDecimals_out (a : ByteArray) (hf : ¬ (fitP a)) (g : Int) (_g0 : -9223372036854775808 ≤ g) (_g1 : g ≤ 9223372036854775807) (w : World) (R : EnvR w) (has : a.size ≤ maxLen) :
    Calls Tryz.prog 6 #[.string a, .int .i64 g] w fun e w' => e = .returned (.bool true) ∧ Below w.heap.size w w' := by
  have za : a.size ≤ 9223372036854775807 := by unfold maxLen at has; omega
  have HF := Lib.hid hf
  clear hf
  have hb := Below.refl w.heap.size w
  go_enter Tryz.func6, Tryz.ntmps6
  go_wp2_with (first | (go_at_call 13; refine (chain hb (known2_any _ (R.below hb))).mono ?_; clear hb; rintro e w1 ⟨rfl, hb⟩) | (go_at_call 30; refine (chainA hb (fits1 a false ⟨fun h => (by cases h), fun h => absurd h HF.out⟩ _ (R.below hb) za)).mono ?_; clear hb; rintro e w1 ⟨rfl, hb⟩))
  go_ret
  exact ⟨rfl, hb⟩
set_option maxRecDepth 100000 in
set_option maxHeartbeats 4000000 in
theorem lawDecimals_lo (p : Rat) (hp : RL p 80) (fp : fitP (ratB p)) (g : Int) (g0 : -9223372036854775808 ≤ g) (g1 : g ≤ 9223372036854775807) (hg : g < 0) (w : World) (R : EnvR w) :
    Calls Tryz.prog 6 #[.string (ratB p), .int .i64 g] w fun e w' => e = .returned (.bool true) ∧ Below w.heap.size w w' := by
  have c1 : ∀ w, EnvR w → Calls Tryz.prog 31 #[.string (ratB p), .int .i64 g] w fun e w' => e = .returned (.tuple #[.string ⟨#[]⟩, .int .i64 3]) ∧ Below w.heap.size w w' := fun w R => decimal_out _ g g0 g1 (by omega) w R
  have za : (ratB p).size ≤ 9223372036854775807 := Nat.le_trans (size_of_RL hp) (by decide)
  have hf : fitP (ratB p) := fp
  obtain ⟨a, ea⟩ : ∃ v, ratB p = v := ⟨_, rfl⟩
  try simp only [ea] at c1 za hf ⊢
  have C1 := Lib.hid c1
  clear c1 ea hp fp
  have HF := Lib.hid hf
  clear hf
  have hb := Below.refl w.heap.size w
  go_enter Tryz.func6, Tryz.ntmps6
  go_wp2_with (first | (go_at_call 13; refine (chain hb (known2_any _ (R.below hb))).mono ?_; clear hb; rintro e w1 ⟨rfl, hb⟩) | (go_at_call 30; refine (chainA hb (fits1 a true ⟨fun _ => HF.out, fun _ => rfl⟩ _ (R.below hb) za)).mono ?_; clear hb; rintro e w1 ⟨rfl, hb⟩) | (go_at_call 31; ((with_reducible refine (chain hb (C1.out _ (R.below hb))).mono ?_); clear hb; rintro e w1 ⟨rfl, hb⟩)))
  go_ret
  exact ⟨rfl, hb⟩
set_option maxRecDepth 100000 in
set_option maxHeartbeats 4000000 in
theorem lawDecimals_hi (p : Rat) (hp : RL p 80) (fp : fitP (ratB p)) (g : Int) (g0 : -9223372036854775808 ≤ g) (g1 : g ≤ 9223372036854775807) (hg : 12 < g) (w : World) (R : EnvR w) :
    Calls Tryz.prog 6 #[.string (ratB p), .int .i64 g] w fun e w' => e = .returned (.bool true) ∧ Below w.heap.size w w' := by
  have c1 : ∀ w, EnvR w → Calls Tryz.prog 31 #[.string (ratB p), .int .i64 g] w fun e w' => e = .returned (.tuple #[.string ⟨#[]⟩, .int .i64 3]) ∧ Below w.heap.size w w' := fun w R => decimal_out _ g g0 g1 (by omega) w R
  have hg' : 0 ≤ g := by omega
  have za : (ratB p).size ≤ 9223372036854775807 := Nat.le_trans (size_of_RL hp) (by decide)
  have hf : fitP (ratB p) := fp
  obtain ⟨a, ea⟩ : ∃ v, ratB p = v := ⟨_, rfl⟩
  try simp only [ea] at c1 hg' za hf ⊢
  have C1 := Lib.hid c1
  clear c1 ea hp fp
  have HF := Lib.hid hf
  clear hf
  have hb := Below.refl w.heap.size w
  go_enter Tryz.func6, Tryz.ntmps6
  go_wp2_with (first | (go_at_call 13; refine (chain hb (known2_any _ (R.below hb))).mono ?_; clear hb; rintro e w1 ⟨rfl, hb⟩) | (go_at_call 30; refine (chainA hb (fits1 a true ⟨fun _ => HF.out, fun _ => rfl⟩ _ (R.below hb) za)).mono ?_; clear hb; rintro e w1 ⟨rfl, hb⟩) | (go_at_call 31; ((with_reducible refine (chain hb (C1.out _ (R.below hb))).mono ?_); clear hb; rintro e w1 ⟨rfl, hb⟩)))
  go_ret
  exact ⟨rfl, hb⟩
set_option maxRecDepth 100000 in
set_option maxHeartbeats 4000000 in
theorem lawDecimals_in (p : Rat) (hp : RL p 80) (fp : fitP (ratB p)) (m : Nat) (hm : m ≤ 12) (U : Int) (hU : ((10 ^ m : Nat) : Int) = U) (w : World) (R : EnvR w) :
    Calls Tryz.prog 6 #[.string (ratB p), .int .i64 (m : Int)] w fun e w' => e = .returned (.bool true) ∧ Below w.heap.size w w' := by
  have hU0 : 1 ≤ U ∧ U ≤ 1000000000000 := by
    rw [← hU]
    have h1 : 10 ^ m ≤ 10 ^ 12 := Nat.pow_le_pow_right (by decide) hm
    have h2 : 1 ≤ 10 ^ m := Nat.pow_pos (by decide)
    omega
  have hUl := dlen_int U (by omega) (by omega)
  have hNl := near_dlen' p U 80 (by decide) hp hUl
  have c1 : ∀ w, EnvR w → Calls Tryz.prog 31 #[.string (ratB p), .int .i64 (m : Int)] w fun e w' => e = .returned (.tuple #[.string (strOf (decS (p * (U : Rat) + Rat.divInt 1 2).floor m)), .int .i64 0]) ∧ Below w.heap.size w w' := fun w R => by have := rdecimal_any p m hm (hp.mono (by decide)) w R; rwa [hU] at this
  have c2 : ∀ w, EnvR w → Calls Tryz.prog 28 #[.string (strOf (decS (p * (U : Rat) + Rat.divInt 1 2).floor m))] w fun e w' => e = .returned (.tuple #[.string (ratB (Rat.divInt (p * (U : Rat) + Rat.divInt 1 2).floor U)), .int .i64 0]) ∧ Below w.heap.size w w' := fun w R => by have h := rparse_any (strOf (decS (p * (U : Rat) + Rat.divInt 1 2).floor m)) (by rw [strOf_size]; have := decS_len (p * (U : Rat) + Rat.divInt 1 2).floor m hm (by omega); omega) w R; rw [strOf_cut, parseQ_dec _ m hm (by omega), hU] at h; exact h
  have c3 : ∀ w, EnvR w → Calls Tryz.prog 32 #[.string (ratB p), .int .i64 (m : Int)] w fun e w' => e = .returned (.string (strOf (decS (p * (U : Rat) + Rat.divInt 1 2).floor m))) ∧ Below w.heap.size w w' := fun w R => by have := refRDecimal_any p m hm (hp.mono (by decide)) w R; rwa [hU] at this
  have c4 : ∀ w, EnvR w → Calls Tryz.prog 25 #[.int .i64 U, .int .i64 1] w fun e w' => e = .returned (.string (ratB (U : Rat))) ∧ Below w.heap.size w w' := fun w R => by have := refROf_any U 1 (by omega) (by omega) (by decide) (by decide) (by decide) w R; rwa [divInt_one] at this
  have c5 : ∀ w, EnvR w → Calls Tryz.prog 34 #[.string (ratB p), .string (ratB (U : Rat))] w fun e w' => e = .returned (.string (ratB (p * (U : Rat)))) ∧ Below w.heap.size w w' := fun w R => refRMul_any p _ w R (hp.mono (by decide)) ((RL_int U 30 (by decide) hUl).mono (by decide))
  have c6 : ∀ w, EnvR w → Calls Tryz.prog 33 #[.string (ratB (p * (U : Rat)))] w fun e w' => e = .returned (.string (itoaB (p * (U : Rat) + Rat.divInt 1 2).floor)) ∧ Below w.heap.size w w' := fun w R => refNearest_any _ ((RL_mul (by decide) hp (RL_int U 30 (by decide) hUl)).mono (by decide)) w R
  have c7 : ∀ w, EnvR w → Calls Tryz.prog 20 #[.int .i64 U] w fun e w' => e = .returned (.string (itoaB U)) ∧ Below w.heap.size w w' := fun w R => refOf_any U (by omega) (by omega) w R.env
  have c8 : ∀ w, EnvR w → Calls Tryz.prog 26 #[.string (itoaB (p * (U : Rat) + Rat.divInt 1 2).floor), .string (itoaB U)] w fun e w' => e = .returned (.string (ratB (Rat.divInt (p * (U : Rat) + Rat.divInt 1 2).floor U))) ∧ Below w.heap.size w w' := fun w R => refFrac_any _ U w R (by omega) (by omega) (by omega)
  have za : (ratB p).size ≤ 9223372036854775807 := Nat.le_trans (size_of_RL hp) (by decide)
  have hf : fitP (ratB p) := fp
  obtain ⟨r, er⟩ : ∃ v, ratB (Rat.divInt (p * (U : Rat) + Rat.divInt 1 2).floor U) = v := ⟨_, rfl⟩
  try simp only [er] at c1 c2 c3 c4 c5 c6 c7 c8 za hf ⊢
  obtain ⟨d, ed⟩ : ∃ v, strOf (decS (p * (U : Rat) + Rat.divInt 1 2).floor m) = v := ⟨_, rfl⟩
  try simp only [ed] at c1 c2 c3 c4 c5 c6 c7 c8 za hf ⊢
  obtain ⟨n, en⟩ : ∃ v, itoaB (p * (U : Rat) + Rat.divInt 1 2).floor = v := ⟨_, rfl⟩
  try simp only [en] at c1 c2 c3 c4 c5 c6 c7 c8 za hf ⊢
  obtain ⟨x, ex⟩ : ∃ v, ratB (p * (U : Rat)) = v := ⟨_, rfl⟩
  try simp only [ex] at c1 c2 c3 c4 c5 c6 c7 c8 za hf ⊢
  obtain ⟨u, eu⟩ : ∃ v, ratB (U : Rat) = v := ⟨_, rfl⟩
  try simp only [eu] at c1 c2 c3 c4 c5 c6 c7 c8 za hf ⊢
  obtain ⟨v, ev⟩ : ∃ v, itoaB U = v := ⟨_, rfl⟩
  try simp only [ev] at c1 c2 c3 c4 c5 c6 c7 c8 za hf ⊢
  obtain ⟨a, ea⟩ : ∃ v, ratB p = v := ⟨_, rfl⟩
  try simp only [ea] at c1 c2 c3 c4 c5 c6 c7 c8 za hf ⊢
  have C1 := Lib.hid c1
  have C2 := Lib.hid c2
  have C3 := Lib.hid c3
  have C4 := Lib.hid c4
  have C5 := Lib.hid c5
  have C6 := Lib.hid c6
  have C7 := Lib.hid c7
  have C8 := Lib.hid c8
  clear c1 c2 c3 c4 c5 c6 c7 c8 er ed en ex eu ev ea hUl hNl hp fp
  have HF := Lib.hid hf
  clear hf
  have HU := Lib.hid hU
  clear hU
  have hb := Below.refl w.heap.size w
  go_enter Tryz.func6, Tryz.ntmps6
  go_wp2_with (first | (go_at_call 13; refine (chain hb (known2_any _ (R.below hb))).mono ?_; clear hb; rintro e w1 ⟨rfl, hb⟩) | (go_at_call 30; refine (chainA hb (fits1 a true ⟨fun _ => HF.out, fun _ => rfl⟩ _ (R.below hb) za)).mono ?_; clear hb; rintro e w1 ⟨rfl, hb⟩) | (go_at_call 31; ((with_reducible refine (chain hb (C1.out _ (R.below hb))).mono ?_); clear hb; rintro e w1 ⟨rfl, hb⟩)) | (go_at_call 28; ((with_reducible refine (chain hb (C2.out _ (R.below hb))).mono ?_); clear hb; rintro e w1 ⟨rfl, hb⟩)) | (go_at_call 32; ((with_reducible refine (chain hb (C3.out _ (R.below hb))).mono ?_); clear hb; rintro e w1 ⟨rfl, hb⟩)) | (go_at_call 25; ((with_reducible refine (chain hb (C4.out _ (R.below hb))).mono ?_); clear hb; rintro e w1 ⟨rfl, hb⟩)) | (go_at_call 34; ((with_reducible refine (chain hb (C5.out _ (R.below hb))).mono ?_); clear hb; rintro e w1 ⟨rfl, hb⟩)) | (go_at_call 33; ((with_reducible refine (chain hb (C6.out _ (R.below hb))).mono ?_); clear hb; rintro e w1 ⟨rfl, hb⟩)) | (go_at_call 20; ((with_reducible refine (chain hb (C7.out _ (R.below hb))).mono ?_); clear hb; rintro e w1 ⟨rfl, hb⟩)) | (go_at_call 26; ((with_reducible refine (chain hb (C8.out _ (R.below hb))).mono ?_); clear hb; rintro e w1 ⟨rfl, hb⟩)))
  have HB := Lib.hid hb
  clear hb
  obtain ⟨wo, ewo⟩ : ∃ wo, w1 = wo := ⟨_, rfl⟩
  subst ewo
  go_loop [9, 10] (fun u i => ∃ k : Nat, k ≤ m ∧ i = .int .i64 k ∧ u = .int .i64 ((10 ^ k : Nat) : Int)) (fun _ i => m - (intOf i).toNat)
  case atStart => exact ⟨0, Nat.zero_le _, rfl, rfl⟩
  case round =>
    obtain ⟨k, hk, rfl, rfl⟩ := hrel
    by_cases hlt : k < m
    · have hw : IntKind.i64.wrap (((10 ^ k : Nat) : Int) * 10) = ((10 ^ (k + 1) : Nat) : Int) := by
        have h1 : 10 ^ k ≤ 1000000000000 := Nat.le_trans (Nat.pow_le_pow_right (by decide) (by omega : k ≤ 12)) (by decide)
        rw [Nat.pow_succ, Int.natCast_mul]
        obtain ⟨u, hu⟩ : ∃ u : Nat, 10 ^ k = u := ⟨_, rfl⟩
        rw [hu] at h1 ⊢
        exact IntWalk.i64_in _ (by omega)
      have hlt' : (k : Int) < (m : Int) := by omega
      obtain ⟨y, hy⟩ : ∃ y : Int, ((10 ^ k : Nat) : Int) = y := ⟨_, rfl⟩
      obtain ⟨z, hz⟩ : ∃ z : Int, ((10 ^ (k + 1) : Nat) : Int) = z := ⟨_, rfl⟩
      rw [hy, hz] at hw
      rw [hy]
      have HZ := Lib.hid hz
      clear hy hz
      go_wp2
      go_round
      case rel => exact ⟨k + 1, by omega, by go_num, by rw [HZ.out]⟩
      case measure => simp [intOf]; omega
    · obtain rfl : k = m := by omega
      rw [HU.out]
      have hb := HB.out
      clear HB HU
      go_wp2_with (first | (go_at_call 13; refine (chain hb (known2_any _ (R.below hb))).mono ?_; clear hb; rintro e w1 ⟨rfl, hb⟩) | (go_at_call 30; refine (chainA hb (fits1 a true ⟨fun _ => HF.out, fun _ => rfl⟩ _ (R.below hb) za)).mono ?_; clear hb; rintro e w1 ⟨rfl, hb⟩) | (go_at_call 31; ((with_reducible refine (chain hb (C1.out _ (R.below hb))).mono ?_); clear hb; rintro e w1 ⟨rfl, hb⟩)) | (go_at_call 28; ((with_reducible refine (chain hb (C2.out _ (R.below hb))).mono ?_); clear hb; rintro e w1 ⟨rfl, hb⟩)) | (go_at_call 32; ((with_reducible refine (chain hb (C3.out _ (R.below hb))).mono ?_); clear hb; rintro e w1 ⟨rfl, hb⟩)) | (go_at_call 25; ((with_reducible refine (chain hb (C4.out _ (R.below hb))).mono ?_); clear hb; rintro e w1 ⟨rfl, hb⟩)) | (go_at_call 34; ((with_reducible refine (chain hb (C5.out _ (R.below hb))).mono ?_); clear hb; rintro e w1 ⟨rfl, hb⟩)) | (go_at_call 33; ((with_reducible refine (chain hb (C6.out _ (R.below hb))).mono ?_); clear hb; rintro e w1 ⟨rfl, hb⟩)) | (go_at_call 20; ((with_reducible refine (chain hb (C7.out _ (R.below hb))).mono ?_); clear hb; rintro e w1 ⟨rfl, hb⟩)) | (go_at_call 26; ((with_reducible refine (chain hb (C8.out _ (R.below hb))).mono ?_); clear hb; rintro e w1 ⟨rfl, hb⟩)))
      go_ret
      exact ⟨rfl, hb⟩
theorem lawDecimals (a : ByteArray) (g : Int) (g0 : -9223372036854775808 ≤ g) (g1 : g ≤ 9223372036854775807) (w : World) (R : EnvR w) (has : a.size ≤ maxLen) :
    Calls Tryz.prog 6 #[.string a, .int .i64 g] w fun e w' => e = .returned (.bool true) ∧ Below w.heap.size w w' := by
  by_cases hf : fitP a
  · obtain ⟨p, rfl, hp⟩ := fit_rat hf
    by_cases h1 : g < 0
    · exact lawDecimals_lo p hp hf g g0 g1 h1 w R
    · by_cases h2 : 12 < g
      · exact lawDecimals_hi p hp hf g g0 g1 h2 w R
      · obtain ⟨m, rfl⟩ : ∃ m : Nat, g = (m : Int) := ⟨g.toNat, by omega⟩
        exact lawDecimals_in p hp hf m (by omega) _ rfl w R
  · exact lawDecimals_out a hf g g0 g1 w R has
end Go.Proofs.YtgllflfifbacnaaGreatDoor.Kl
