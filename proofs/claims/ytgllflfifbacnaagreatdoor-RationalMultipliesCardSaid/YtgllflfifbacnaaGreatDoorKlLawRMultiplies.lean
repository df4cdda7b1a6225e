/- The walk of klippelaw02.RationalMultiplies: true, whatever the texts. -/
import Derived.Test.YtgllflfifbacnaaGreatDoorKlRatE
namespace Go.Proofs.YtgllflfifbacnaaGreatDoor.Kl
open Go Go.RowKit

set_option maxRecDepth 100000 in
set_option maxHeartbeats 2000000 in
theorem lawMultiplies_out (a b : ByteArray) (hf : ¬ (fitP a ∧ fitP b)) (w : World) (R : EnvR w) (has : a.size ≤ maxLen) (hbs : b.size ≤ maxLen) :
    Calls Tryz.prog 9 #[.string a, .string b] w fun e w' => e = .returned (.bool true) ∧ Below w.heap.size w w' := by
  have za : a.size ≤ 9223372036854775807 := by unfold maxLen at has; omega
  have zb : b.size ≤ 9223372036854775807 := by unfold maxLen at hbs; omega
  have HF := Lib.hid hf
  clear hf
  have hb := Below.refl w.heap.size w
  go_enter Tryz.func9, Tryz.ntmps9
  go_wp2_with (first | (go_at_call 13; refine (chain hb (known2_any _ (R.below hb))).mono ?_; clear hb; rintro e w1 ⟨rfl, hb⟩) | (go_at_call 30; refine (chainA hb (fits2 a b false ⟨fun h => (by cases h), fun h => absurd h HF.out⟩ _ (R.below hb) za zb)).mono ?_; clear hb; rintro e w1 ⟨rfl, hb⟩))
  go_ret
  exact ⟨rfl, hb⟩
set_option maxRecDepth 100000 in
set_option maxHeartbeats 4000000 in
theorem lawMultiplies_in (p q : Rat) (hp : RL p 80) (fp : fitP (ratB p)) (hq : RL q 80) (fq : fitP (ratB q)) (h0 : q ≠ 0) (w : World) (R : EnvR w) :
    Calls Tryz.prog 9 #[.string (ratB p), .string (ratB q)] w fun e w' => e = .returned (.bool true) ∧ Below w.heap.size w w' := by
  have c1 : ∀ w, EnvR w → Calls Tryz.prog 51 #[.string (ratB p), .string (ratB q)] w fun e w' => e = .returned (.tuple #[.string (ratB (p / q)), .int .i64 0]) ∧ Below w.heap.size w w' := fun w R => rdiv_any p q (hp.mono (by decide)) (hq.mono (by decide)) h0 w R
  have c2 : ∀ w, EnvR w → Calls Tryz.prog 52 #[.string (ratB p), .string (ratB q)] w fun e w' => e = .returned (.string (ratB (p * q))) ∧ Below w.heap.size w w' := fun w R => rmul_any p q (hp.mono (by decide)) (hq.mono (by decide)) w R
  have c3 : ∀ w, EnvR w → Calls Tryz.prog 34 #[.string (ratB p), .string (ratB q)] w fun e w' => e = .returned (.string (ratB (p * q))) ∧ Below w.heap.size w w' := fun w R => refRMul_any p q w R (hp.mono (by decide)) (hq.mono (by decide))
  have c4 : ∀ w, EnvR w → Calls Tryz.prog 53 #[.string (ratB p), .string (ratB q)] w fun e w' => e = .returned (.string (ratB (p / q))) ∧ Below w.heap.size w w' := fun w R => refRDiv_any p q (hp.mono (by decide)) (hq.mono (by decide)) (mt Rat.num_eq_zero.1 h0) w R
  have e0 : ((ratB q).toList == [48]) = false := by rw [ratB_eq_zero]; exact decide_eq_false h0
  have za : (ratB p).size ≤ 9223372036854775807 := Nat.le_trans (size_of_RL hp) (by decide)
  have zb : (ratB q).size ≤ 9223372036854775807 := Nat.le_trans (size_of_RL hq) (by decide)
  have hf : fitP (ratB p) ∧ fitP (ratB q) := ⟨fp, fq⟩
  obtain ⟨m, em⟩ : ∃ v, ratB (p * q) = v := ⟨_, rfl⟩
  try simp only [em] at c1 c2 c3 c4 e0 za zb hf ⊢
  obtain ⟨d, ed⟩ : ∃ v, ratB (p / q) = v := ⟨_, rfl⟩
  try simp only [ed] at c1 c2 c3 c4 e0 za zb hf ⊢
  obtain ⟨a, ea⟩ : ∃ v, ratB p = v := ⟨_, rfl⟩
  try simp only [ea] at c1 c2 c3 c4 e0 za zb hf ⊢
  obtain ⟨b, eb⟩ : ∃ v, ratB q = v := ⟨_, rfl⟩
  try simp only [eb] at c1 c2 c3 c4 e0 za zb hf ⊢
  have C1 := Lib.hid c1
  have C2 := Lib.hid c2
  have C3 := Lib.hid c3
  have C4 := Lib.hid c4
  clear c1 c2 c3 c4 em ed ea eb h0 hp hq fp fq
  have HF := Lib.hid hf
  clear hf
  have hb := Below.refl w.heap.size w
  go_enter Tryz.func9, Tryz.ntmps9
  go_wp2_with (first | (go_at_call 13; refine (chain hb (known2_any _ (R.below hb))).mono ?_; clear hb; rintro e w1 ⟨rfl, hb⟩) | (go_at_call 30; refine (chainA hb (fits2 a b true ⟨fun _ => HF.out, fun _ => rfl⟩ _ (R.below hb) za zb)).mono ?_; clear hb; rintro e w1 ⟨rfl, hb⟩) | (go_at_call 51; ((with_reducible refine (chain hb (C1.out _ (R.below hb))).mono ?_); clear hb; rintro e w1 ⟨rfl, hb⟩)) | (go_at_call 52; ((with_reducible refine (chain hb (C2.out _ (R.below hb))).mono ?_); clear hb; rintro e w1 ⟨rfl, hb⟩)) | (go_at_call 34; ((with_reducible refine (chain hb (C3.out _ (R.below hb))).mono ?_); clear hb; rintro e w1 ⟨rfl, hb⟩)) | (go_at_call 53; ((with_reducible refine (chain hb (C4.out _ (R.below hb))).mono ?_); clear hb; rintro e w1 ⟨rfl, hb⟩)))
  go_ret
  exact ⟨rfl, hb⟩
set_option maxRecDepth 100000 in
set_option maxHeartbeats 4000000 in
theorem lawMultiplies_zero (p q : Rat) (hp : RL p 80) (fp : fitP (ratB p)) (hq : RL q 80) (fq : fitP (ratB q)) (h0 : q = 0) (w : World) (R : EnvR w) :
    Calls Tryz.prog 9 #[.string (ratB p), .string (ratB q)] w fun e w' => e = .returned (.bool true) ∧ Below w.heap.size w w' := by
  have c1 : ∀ w, EnvR w → Calls Tryz.prog 51 #[.string (ratB p), .string (ratB q)] w fun e w' => e = .returned (.tuple #[.string ⟨#[]⟩, .int .i64 17]) ∧ Below w.heap.size w w' := fun w R => by rw [h0]; exact rdiv_zero _ w R
  have c2 : ∀ w, EnvR w → Calls Tryz.prog 52 #[.string (ratB p), .string (ratB q)] w fun e w' => e = .returned (.string (ratB (p * q))) ∧ Below w.heap.size w w' := fun w R => rmul_any p q (hp.mono (by decide)) (hq.mono (by decide)) w R
  have c3 : ∀ w, EnvR w → Calls Tryz.prog 34 #[.string (ratB p), .string (ratB q)] w fun e w' => e = .returned (.string (ratB (p * q))) ∧ Below w.heap.size w w' := fun w R => refRMul_any p q w R (hp.mono (by decide)) (hq.mono (by decide))
  have e0 : ((ratB q).toList == [48]) = true := by rw [ratB_eq_zero]; exact decide_eq_true h0
  have za : (ratB p).size ≤ 9223372036854775807 := Nat.le_trans (size_of_RL hp) (by decide)
  have zb : (ratB q).size ≤ 9223372036854775807 := Nat.le_trans (size_of_RL hq) (by decide)
  have hf : fitP (ratB p) ∧ fitP (ratB q) := ⟨fp, fq⟩
  obtain ⟨m, em⟩ : ∃ v, ratB (p * q) = v := ⟨_, rfl⟩
  try simp only [em] at c1 c2 c3 e0 za zb hf ⊢
  obtain ⟨a, ea⟩ : ∃ v, ratB p = v := ⟨_, rfl⟩
  try simp only [ea] at c1 c2 c3 e0 za zb hf ⊢
  obtain ⟨b, eb⟩ : ∃ v, ratB q = v := ⟨_, rfl⟩
  try simp only [eb] at c1 c2 c3 e0 za zb hf ⊢
  have C1 := Lib.hid c1
  have C2 := Lib.hid c2
  have C3 := Lib.hid c3
  clear c1 c2 c3 em ea eb h0 hp hq fp fq
  have HF := Lib.hid hf
  clear hf
  have hb := Below.refl w.heap.size w
  go_enter Tryz.func9, Tryz.ntmps9
  go_wp2_with (first | (go_at_call 13; refine (chain hb (known2_any _ (R.below hb))).mono ?_; clear hb; rintro e w1 ⟨rfl, hb⟩) | (go_at_call 30; refine (chainA hb (fits2 a b true ⟨fun _ => HF.out, fun _ => rfl⟩ _ (R.below hb) za zb)).mono ?_; clear hb; rintro e w1 ⟨rfl, hb⟩) | (go_at_call 51; ((with_reducible refine (chain hb (C1.out _ (R.below hb))).mono ?_); clear hb; rintro e w1 ⟨rfl, hb⟩)) | (go_at_call 52; ((with_reducible refine (chain hb (C2.out _ (R.below hb))).mono ?_); clear hb; rintro e w1 ⟨rfl, hb⟩)) | (go_at_call 34; ((with_reducible refine (chain hb (C3.out _ (R.below hb))).mono ?_); clear hb; rintro e w1 ⟨rfl, hb⟩)))
  go_ret
  exact ⟨rfl, hb⟩
theorem lawMultiplies (a b : ByteArray) (w : World) (R : EnvR w) (has : a.size ≤ maxLen) (hbs : b.size ≤ maxLen) :
    Calls Tryz.prog 9 #[.string a, .string b] w fun e w' => e = .returned (.bool true) ∧ Below w.heap.size w w' := by
  by_cases hf : fitP a ∧ fitP b
  · obtain ⟨p, rfl, hp⟩ := fit_rat hf.1
    obtain ⟨q, rfl, hq⟩ := fit_rat hf.2
    by_cases h0 : q = 0
    · exact lawMultiplies_zero p q hp hf.1 hq hf.2 h0 w R
    · exact lawMultiplies_in p q hp hf.1 hq hf.2 h0 w R
  · exact lawMultiplies_out a b hf w R has hbs
end Go.Proofs.YtgllflfifbacnaaGreatDoor.Kl
