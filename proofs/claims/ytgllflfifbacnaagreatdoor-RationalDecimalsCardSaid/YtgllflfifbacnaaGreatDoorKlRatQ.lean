/- Contracts: the reference's fractions of ints, and its rounding to a grid. -/
import Derived.Test.YtgllflfifbacnaaGreatDoorKlRatV
import Derived.Test.YtgllflfifbacnaaGreatDoorKlRatF
namespace Go.Proofs.YtgllflfifbacnaaGreatDoor.Kl
open Go Go.RowKit

set_option maxRecDepth 100000 in
set_option maxHeartbeats 200000 in
theorem refROf_any (n d : Int) (hn0 : -9223372036854775808 ≤ n) (hn1 : n ≤ 9223372036854775807) (hd0 : -9223372036854775808 ≤ d) (hd1 : d ≤ 9223372036854775807) (hd : d ≠ 0) (w : World) (R : EnvR w) :
    Calls Tryz.prog 25 #[.int .i64 n, .int .i64 d] w fun e w' => e = .returned (.string (ratB (Rat.divInt n d))) ∧ Below w.heap.size w w' := by
  have c1 : ∀ w, EnvR w → Calls Tryz.prog 20 #[.int .i64 n] w fun e w' => e = .returned (.string (itoaB n)) ∧ Below w.heap.size w w' := fun w R => refOf_any n hn0 hn1 w R.env
  have c2 : ∀ w, EnvR w → Calls Tryz.prog 20 #[.int .i64 d] w fun e w' => e = .returned (.string (itoaB d)) ∧ Below w.heap.size w w' := fun w R => refOf_any d hd0 hd1 w R.env
  have c3 : ∀ w, EnvR w → Calls Tryz.prog 26 #[.string (itoaB n), .string (itoaB d)] w fun e w' => e = .returned (.string (ratB (Rat.divInt n d))) ∧ Below w.heap.size w w' := fun w R => refFrac_any n d w R (Nat.le_trans (dlen_int n hn0 hn1) (by decide)) (Nat.le_trans (dlen_int d hd0 hd1) (by decide)) hd
  obtain ⟨r, er⟩ : ∃ v, ratB (Rat.divInt n d) = v := ⟨_, rfl⟩
  try simp only [er] at c1 c2 c3 ⊢
  obtain ⟨a, ea⟩ : ∃ v, itoaB n = v := ⟨_, rfl⟩
  try simp only [ea] at c1 c2 c3 ⊢
  obtain ⟨b, eb⟩ : ∃ v, itoaB d = v := ⟨_, rfl⟩
  try simp only [eb] at c1 c2 c3 ⊢
  have C1 := Lib.hid c1
  have C2 := Lib.hid c2
  have C3 := Lib.hid c3
  clear c1 c2 c3 er ea eb hd
  have hb := Below.refl w.heap.size w
  go_enter Tryz.func25, Tryz.ntmps25
  go_wp2_with (first | (go_at_call 20; first | ((with_reducible refine (chain hb (C1.out _ (R.below hb))).mono ?_); clear hb; rintro e w1 ⟨rfl, hb⟩) | ((with_reducible refine (chain hb (C2.out _ (R.below hb))).mono ?_); clear hb; rintro e w1 ⟨rfl, hb⟩)) | (go_at_call 26; ((with_reducible refine (chain hb (C3.out _ (R.below hb))).mono ?_); clear hb; rintro e w1 ⟨rfl, hb⟩)))
  go_ret
  exact ⟨rfl, hb⟩
theorem RL_int (g : Int) (K : Nat) (hK : 0 < K) (h : dlen g ≤ K) : RL (g : Rat) K := ⟨h, by show dlen ((1 : Nat) : Int) ≤ K; rw [dlen_one]; exact hK⟩
theorem divInt_one (g : Int) : Rat.divInt g 1 = (g : Rat) := Rat.mkRat_one g
theorem near_dlen' (q : Rat) (g : Int) (K : Nat) (hK : 30 ≤ K) (hq : RL q K) (hg : dlen g ≤ 30) : dlen (q * (g : Rat) + Rat.divInt 1 2).floor ≤ K + 40 := by
  rw [near_mk]
  have hd := q.den_pos
  have g1 : dlen (q.num * g) ≤ K + 30 := dlen_mul _ _ _ _ (by omega) hq.1 hg
  have g2 : dlen (2 * (q.num * g)) ≤ 1 + (K + 30) := dlen_mul _ _ _ _ (by omega) (Nat.le_of_eq dlen_two) g1
  have g4 : dlen (2 * (q.num * g) + q.den) ≤ (1 + (K + 30)) + 1 := dlen_add _ _ _ (by omega) g2 (Nat.le_trans hq.2 (by omega))
  obtain ⟨z, hz⟩ : ∃ z, 2 * (q.num * g) + q.den = z := ⟨_, rfl⟩
  rw [hz] at g4 ⊢
  have h1 := Int.natAbs_ediv_le_natAbs z (2 * (q.den : Int))
  refine dlen_le _ _ (by omega) (Nat.lt_of_le_of_lt h1 (Nat.lt_of_lt_of_le (dlen_lt _ _ g4) (Nat.pow_le_pow_right (by decide) (by omega))))
set_option maxRecDepth 100000 in
set_option maxHeartbeats 200000 in
theorem refRRound_any (q : Rat) (g : Int) (hq : RL q 300) (h0 : 1 ≤ g) (h1 : g ≤ 1000000) (w : World) (R : EnvR w) :
    Calls Tryz.prog 57 #[.string (ratB q), .int .i64 g] w fun e w' => e = .returned (.string (ratB (Rat.divInt (q * (g : Rat) + Rat.divInt 1 2).floor g))) ∧ Below w.heap.size w w' := by
  have hg := dlen_int g (by omega) (by omega)
  have hnl := near_dlen' q g 300 (by decide) hq hg
  have c1 : ∀ w, EnvR w → Calls Tryz.prog 25 #[.int .i64 g, .int .i64 1] w fun e w' => e = .returned (.string (ratB (g : Rat))) ∧ Below w.heap.size w w' := fun w R => by have := refROf_any g 1 (by omega) (by omega) (by decide) (by decide) (by decide) w R; rwa [divInt_one] at this
  have c2 : ∀ w, EnvR w → Calls Tryz.prog 34 #[.string (ratB q), .string (ratB (g : Rat))] w fun e w' => e = .returned (.string (ratB (q * (g : Rat)))) ∧ Below w.heap.size w w' := fun w R => refRMul_any q _ w R (hq.mono (by decide)) ((RL_int g 30 (by decide) hg).mono (by decide))
  have c3 : ∀ w, EnvR w → Calls Tryz.prog 33 #[.string (ratB (q * (g : Rat)))] w fun e w' => e = .returned (.string (itoaB (q * (g : Rat) + Rat.divInt 1 2).floor)) ∧ Below w.heap.size w w' := fun w R => refNearest_any _ ((RL_mul (by decide) hq (RL_int g 30 (by decide) hg)).mono (by decide)) w R
  have c4 : ∀ w, EnvR w → Calls Tryz.prog 20 #[.int .i64 g] w fun e w' => e = .returned (.string (itoaB g)) ∧ Below w.heap.size w w' := fun w R => refOf_any g (by omega) (by omega) w R.env
  have c5 : ∀ w, EnvR w → Calls Tryz.prog 26 #[.string (itoaB (q * (g : Rat) + Rat.divInt 1 2).floor), .string (itoaB g)] w fun e w' => e = .returned (.string (ratB (Rat.divInt (q * (g : Rat) + Rat.divInt 1 2).floor g))) ∧ Below w.heap.size w w' := fun w R => refFrac_any _ _ w R (Nat.le_trans hnl (by decide)) (Nat.le_trans hg (by decide)) (by omega)
  obtain ⟨r, er⟩ : ∃ v, ratB (Rat.divInt (q * (g : Rat) + Rat.divInt 1 2).floor g) = v := ⟨_, rfl⟩
  try simp only [er] at c1 c2 c3 c4 c5 ⊢
  obtain ⟨n, en⟩ : ∃ v, itoaB (q * (g : Rat) + Rat.divInt 1 2).floor = v := ⟨_, rfl⟩
  try simp only [en] at c1 c2 c3 c4 c5 ⊢
  obtain ⟨m, em⟩ : ∃ v, ratB (q * (g : Rat)) = v := ⟨_, rfl⟩
  try simp only [em] at c1 c2 c3 c4 c5 ⊢
  obtain ⟨c, ec⟩ : ∃ v, itoaB g = v := ⟨_, rfl⟩
  try simp only [ec] at c1 c2 c3 c4 c5 ⊢
  obtain ⟨b, eb⟩ : ∃ v, ratB (g : Rat) = v := ⟨_, rfl⟩
  try simp only [eb] at c1 c2 c3 c4 c5 ⊢
  obtain ⟨s, es⟩ : ∃ v, ratB q = v := ⟨_, rfl⟩
  try simp only [es] at c1 c2 c3 c4 c5 ⊢
  have C1 := Lib.hid c1
  have C2 := Lib.hid c2
  have C3 := Lib.hid c3
  have C4 := Lib.hid c4
  have C5 := Lib.hid c5
  clear c1 c2 c3 c4 c5 er en em ec eb es hg hnl hq
  have hb := Below.refl w.heap.size w
  go_enter Tryz.func57, Tryz.ntmps57
  go_wp2_with (first | (go_at_call 25; ((with_reducible refine (chain hb (C1.out _ (R.below hb))).mono ?_); clear hb; rintro e w1 ⟨rfl, hb⟩)) | (go_at_call 34; ((with_reducible refine (chain hb (C2.out _ (R.below hb))).mono ?_); clear hb; rintro e w1 ⟨rfl, hb⟩)) | (go_at_call 33; ((with_reducible refine (chain hb (C3.out _ (R.below hb))).mono ?_); clear hb; rintro e w1 ⟨rfl, hb⟩)) | (go_at_call 20; ((with_reducible refine (chain hb (C4.out _ (R.below hb))).mono ?_); clear hb; rintro e w1 ⟨rfl, hb⟩)) | (go_at_call 26; ((with_reducible refine (chain hb (C5.out _ (R.below hb))).mono ?_); clear hb; rintro e w1 ⟨rfl, hb⟩)))
  go_ret
  exact ⟨rfl, hb⟩
end Go.Proofs.YtgllflfifbacnaaGreatDoor.Kl
