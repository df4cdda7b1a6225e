/- The walk of klippelaw02.RationalRounds: true, whatever the texts. -/
import Derived.Test.YtgllflfifbacnaaGreatDoorKlRatQ
import Derived.Test.YtgllflfifbacnaaGreatDoorKlKnown2
import Derived.Test.YtgllflfifbacnaaGreatDoorKlRatE
namespace Go.Proofs.YtgllflfifbacnaaGreatDoor.Kl
open Go Go.RowKit

set_option maxRecDepth 100000 in
set_option maxHeartbeats 2000000 in
theorem lawRounds_out (a : ByteArray) (hf : ¬ (fitP a)) (g : Int) (_g0 : -9223372036854775808 ≤ g) (_g1 : g ≤ 9223372036854775807) (w : World) (R : EnvR w) (has : a.size ≤ maxLen) :
    Calls Tryz.prog 10 #[.string a, .int .i64 g] w fun e w' => e = .returned (.bool true) ∧ Below w.heap.size w w' := by
  have za : a.size ≤ 9223372036854775807 := by unfold maxLen at has; omega
  have HF := Lib.hid hf
  clear hf
  have hb := Below.refl w.heap.size w
  go_enter Tryz.func10, Tryz.ntmps10
  go_wp2_with (first | (go_at_call 13; refine (chain hb (known2_any _ (R.below hb))).mono ?_; clear hb; rintro e w1 ⟨rfl, hb⟩) | (go_at_call 30; refine (chainA hb (fits1 a false ⟨fun h => (by cases h), fun h => absurd h HF.out⟩ _ (R.below hb) za)).mono ?_; clear hb; rintro e w1 ⟨rfl, hb⟩))
  go_ret
  exact ⟨rfl, hb⟩
set_option maxRecDepth 100000 in
set_option maxHeartbeats 4000000 in
theorem lawRounds_lo (p : Rat) (hp : RL p 80) (fp : fitP (ratB p)) (g : Int) (g0 : -9223372036854775808 ≤ g) (g1 : g ≤ 9223372036854775807) (hg : g < 1) (w : World) (R : EnvR w) :
    Calls Tryz.prog 10 #[.string (ratB p), .int .i64 g] w fun e w' => e = .returned (.bool true) ∧ Below w.heap.size w w' := by
  have c1 : ∀ w, EnvR w → Calls Tryz.prog 54 #[.string (ratB p)] w fun e w' => e = .returned (.string (itoaB p.floor)) ∧ Below w.heap.size w w' := fun w R => rfloor_any p w R (hp.mono (by decide))
  have c2 : ∀ w, EnvR w → Calls Tryz.prog 55 #[.string (ratB p)] w fun e w' => e = .returned (.string (itoaB p.floor)) ∧ Below w.heap.size w w' := fun w R => refRFloor_any p (hp.mono (by decide)) w R
  have c3 : ∀ w, EnvR w → Calls Tryz.prog 56 #[.string (ratB p), .int .i64 g] w fun e w' => e = .returned (.tuple #[.string ⟨#[]⟩, .int .i64 3]) ∧ Below w.heap.size w w' := fun w R => rround_out _ g (by omega) g0 g1 w R
  have za : (ratB p).size ≤ 9223372036854775807 := Nat.le_trans (size_of_RL hp) (by decide)
  have hf : fitP (ratB p) := fp
  obtain ⟨f, ef⟩ : ∃ v, itoaB p.floor = v := ⟨_, rfl⟩
  try simp only [ef] at c1 c2 c3 za hf ⊢
  obtain ⟨a, ea⟩ : ∃ v, ratB p = v := ⟨_, rfl⟩
  try simp only [ea] at c1 c2 c3 za hf ⊢
  have C1 := Lib.hid c1
  have C2 := Lib.hid c2
  have C3 := Lib.hid c3
  clear c1 c2 c3 ef ea hp fp
  have HF := Lib.hid hf
  clear hf
  have hb := Below.refl w.heap.size w
  go_enter Tryz.func10, Tryz.ntmps10
  go_wp2_with (first | (go_at_call 13; refine (chain hb (known2_any _ (R.below hb))).mono ?_; clear hb; rintro e w1 ⟨rfl, hb⟩) | (go_at_call 30; refine (chainA hb (fits1 a true ⟨fun _ => HF.out, fun _ => rfl⟩ _ (R.below hb) za)).mono ?_; clear hb; rintro e w1 ⟨rfl, hb⟩) | (go_at_call 54; ((with_reducible refine (chain hb (C1.out _ (R.below hb))).mono ?_); clear hb; rintro e w1 ⟨rfl, hb⟩)) | (go_at_call 55; ((with_reducible refine (chain hb (C2.out _ (R.below hb))).mono ?_); clear hb; rintro e w1 ⟨rfl, hb⟩)) | (go_at_call 56; ((with_reducible refine (chain hb (C3.out _ (R.below hb))).mono ?_); clear hb; rintro e w1 ⟨rfl, hb⟩)))
  go_ret
  exact ⟨rfl, hb⟩
set_option maxRecDepth 100000 in
set_option maxHeartbeats 4000000 in
theorem lawRounds_hi (p : Rat) (hp : RL p 80) (fp : fitP (ratB p)) (g : Int) (g0 : -9223372036854775808 ≤ g) (g1 : g ≤ 9223372036854775807) (hg : 1000000 < g) (w : World) (R : EnvR w) :
    Calls Tryz.prog 10 #[.string (ratB p), .int .i64 g] w fun e w' => e = .returned (.bool true) ∧ Below w.heap.size w w' := by
  have c1 : ∀ w, EnvR w → Calls Tryz.prog 54 #[.string (ratB p)] w fun e w' => e = .returned (.string (itoaB p.floor)) ∧ Below w.heap.size w w' := fun w R => rfloor_any p w R (hp.mono (by decide))
  have c2 : ∀ w, EnvR w → Calls Tryz.prog 55 #[.string (ratB p)] w fun e w' => e = .returned (.string (itoaB p.floor)) ∧ Below w.heap.size w w' := fun w R => refRFloor_any p (hp.mono (by decide)) w R
  have c3 : ∀ w, EnvR w → Calls Tryz.prog 56 #[.string (ratB p), .int .i64 g] w fun e w' => e = .returned (.tuple #[.string ⟨#[]⟩, .int .i64 3]) ∧ Below w.heap.size w w' := fun w R => rround_out _ g (by omega) g0 g1 w R
  have hg' : 1 ≤ g := by omega
  have za : (ratB p).size ≤ 9223372036854775807 := Nat.le_trans (size_of_RL hp) (by decide)
  have hf : fitP (ratB p) := fp
  obtain ⟨f, ef⟩ : ∃ v, itoaB p.floor = v := ⟨_, rfl⟩
  try simp only [ef] at c1 c2 c3 hg' za hf ⊢
  obtain ⟨a, ea⟩ : ∃ v, ratB p = v := ⟨_, rfl⟩
  try simp only [ea] at c1 c2 c3 hg' za hf ⊢
  have C1 := Lib.hid c1
  have C2 := Lib.hid c2
  have C3 := Lib.hid c3
  clear c1 c2 c3 ef ea hp fp
  have HF := Lib.hid hf
  clear hf
  have hb := Below.refl w.heap.size w
  go_enter Tryz.func10, Tryz.ntmps10
  go_wp2_with (first | (go_at_call 13; refine (chain hb (known2_any _ (R.below hb))).mono ?_; clear hb; rintro e w1 ⟨rfl, hb⟩) | (go_at_call 30; refine (chainA hb (fits1 a true ⟨fun _ => HF.out, fun _ => rfl⟩ _ (R.below hb) za)).mono ?_; clear hb; rintro e w1 ⟨rfl, hb⟩) | (go_at_call 54; ((with_reducible refine (chain hb (C1.out _ (R.below hb))).mono ?_); clear hb; rintro e w1 ⟨rfl, hb⟩)) | (go_at_call 55; ((with_reducible refine (chain hb (C2.out _ (R.below hb))).mono ?_); clear hb; rintro e w1 ⟨rfl, hb⟩)) | (go_at_call 56; ((with_reducible refine (chain hb (C3.out _ (R.below hb))).mono ?_); clear hb; rintro e w1 ⟨rfl, hb⟩)))
  go_ret
  exact ⟨rfl, hb⟩
set_option maxRecDepth 100000 in
set_option maxHeartbeats 4000000 in
theorem lawRounds_in (p : Rat) (hp : RL p 80) (fp : fitP (ratB p)) (g : Int) (g0 : -9223372036854775808 ≤ g) (g1 : g ≤ 9223372036854775807) (hg0 : 1 ≤ g) (hg1 : g ≤ 1000000) (w : World) (R : EnvR w) :
    Calls Tryz.prog 10 #[.string (ratB p), .int .i64 g] w fun e w' => e = .returned (.bool true) ∧ Below w.heap.size w w' := by
  have c1 : ∀ w, EnvR w → Calls Tryz.prog 54 #[.string (ratB p)] w fun e w' => e = .returned (.string (itoaB p.floor)) ∧ Below w.heap.size w w' := fun w R => rfloor_any p w R (hp.mono (by decide))
  have c2 : ∀ w, EnvR w → Calls Tryz.prog 55 #[.string (ratB p)] w fun e w' => e = .returned (.string (itoaB p.floor)) ∧ Below w.heap.size w w' := fun w R => refRFloor_any p (hp.mono (by decide)) w R
  have c3 : ∀ w, EnvR w → Calls Tryz.prog 56 #[.string (ratB p), .int .i64 g] w fun e w' => e = .returned (.tuple #[.string (ratB (Rat.divInt (p * (g : Rat) + Rat.divInt 1 2).floor g)), .int .i64 0]) ∧ Below w.heap.size w w' := fun w R => rround_any p g (hp.mono (by decide)) hg0 hg1 w R
  have c4 : ∀ w, EnvR w → Calls Tryz.prog 57 #[.string (ratB p), .int .i64 g] w fun e w' => e = .returned (.string (ratB (Rat.divInt (p * (g : Rat) + Rat.divInt 1 2).floor g))) ∧ Below w.heap.size w w' := fun w R => refRRound_any p g (hp.mono (by decide)) hg0 hg1 w R
  have za : (ratB p).size ≤ 9223372036854775807 := Nat.le_trans (size_of_RL hp) (by decide)
  have hf : fitP (ratB p) := fp
  obtain ⟨r, er⟩ : ∃ v, ratB (Rat.divInt (p * (g : Rat) + Rat.divInt 1 2).floor g) = v := ⟨_, rfl⟩
  try simp only [er] at c1 c2 c3 c4 za hf ⊢
  obtain ⟨f, ef⟩ : ∃ v, itoaB p.floor = v := ⟨_, rfl⟩
  try simp only [ef] at c1 c2 c3 c4 za hf ⊢
  obtain ⟨a, ea⟩ : ∃ v, ratB p = v := ⟨_, rfl⟩
  try simp only [ea] at c1 c2 c3 c4 za hf ⊢
  have C1 := Lib.hid c1
  have C2 := Lib.hid c2
  have C3 := Lib.hid c3
  have C4 := Lib.hid c4
  clear c1 c2 c3 c4 er ef ea hp fp
  have HF := Lib.hid hf
  clear hf
  have hb := Below.refl w.heap.size w
  go_enter Tryz.func10, Tryz.ntmps10
  go_wp2_with (first | (go_at_call 13; refine (chain hb (known2_any _ (R.below hb))).mono ?_; clear hb; rintro e w1 ⟨rfl, hb⟩) | (go_at_call 30; refine (chainA hb (fits1 a true ⟨fun _ => HF.out, fun _ => rfl⟩ _ (R.below hb) za)).mono ?_; clear hb; rintro e w1 ⟨rfl, hb⟩) | (go_at_call 54; ((with_reducible refine (chain hb (C1.out _ (R.below hb))).mono ?_); clear hb; rintro e w1 ⟨rfl, hb⟩)) | (go_at_call 55; ((with_reducible refine (chain hb (C2.out _ (R.below hb))).mono ?_); clear hb; rintro e w1 ⟨rfl, hb⟩)) | (go_at_call 56; ((with_reducible refine (chain hb (C3.out _ (R.below hb))).mono ?_); clear hb; rintro e w1 ⟨rfl, hb⟩)) | (go_at_call 57; ((with_reducible refine (chain hb (C4.out _ (R.below hb))).mono ?_); clear hb; rintro e w1 ⟨rfl, hb⟩)))
  go_ret
  exact ⟨rfl, hb⟩
theorem lawRounds (a : ByteArray) (g : Int) (g0 : -9223372036854775808 ≤ g) (g1 : g ≤ 9223372036854775807) (w : World) (R : EnvR w) (has : a.size ≤ maxLen) :
    Calls Tryz.prog 10 #[.string a, .int .i64 g] w fun e w' => e = .returned (.bool true) ∧ Below w.heap.size w w' := by
  by_cases hf : fitP a
  · obtain ⟨p, rfl, hp⟩ := fit_rat hf
    by_cases h1 : g < 1
    · exact lawRounds_lo p hp hf g g0 g1 h1 w R
    · by_cases h2 : 1000000 < g
      · exact lawRounds_hi p hp hf g g0 g1 h2 w R
      · exact lawRounds_in p hp hf g g0 g1 (by omega) (by omega) w R
  · exact lawRounds_out a hf g g0 g1 w R has
end Go.Proofs.YtgllflfifbacnaaGreatDoor.Kl
