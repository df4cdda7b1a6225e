/- The walk of klippelaw02.RationalCompares: true, whatever the texts. -/
import Derived.Test.YtgllflfifbacnaaGreatDoorKlRatO
namespace Go.Proofs.YtgllflfifbacnaaGreatDoor.Kl
open Go Go.RowKit

set_option maxRecDepth 100000 in
set_option maxHeartbeats 2000000 in
theorem lawCompares_out (a b : ByteArray) (hf : ¬ (fitP a ∧ fitP b)) (w : World) (R : EnvR w) (has : a.size ≤ maxLen) (hbs : b.size ≤ maxLen) :
    Calls Tryz.prog 7 #[.string a, .string b] w fun e w' => e = .returned (.bool true) ∧ Below w.heap.size w w' := by
  have za : a.size ≤ 9223372036854775807 := by unfold maxLen at has; omega
  have zb : b.size ≤ 9223372036854775807 := by unfold maxLen at hbs; omega
  have HF := Lib.hid hf
  clear hf
  have hb := Below.refl w.heap.size w
  go_enter Tryz.func7, Tryz.ntmps7
  go_wp2_with (first | (go_at_call 13; refine (chain hb (known2_any _ (R.below hb))).mono ?_; clear hb; rintro e w1 ⟨rfl, hb⟩) | (go_at_call 30; refine (chainA hb (fits2 a b false ⟨fun h => (by cases h), fun h => absurd h HF.out⟩ _ (R.below hb) za zb)).mono ?_; clear hb; rintro e w1 ⟨rfl, hb⟩))
  go_ret
  exact ⟨rfl, hb⟩
set_option maxRecDepth 100000 in
set_option maxHeartbeats 4000000 in
theorem lawCompares_g (p q : Rat) (hp : RL p 80) (fp : fitP (ratB p)) (hq : RL q 80) (fq : fitP (ratB q)) (hz : 0 < (p - q).num.sign) (w : World) (R : EnvR w) :
    Calls Tryz.prog 7 #[.string (ratB p), .string (ratB q)] w fun e w' => e = .returned (.bool true) ∧ Below w.heap.size w w' := by
  have c1 : ∀ w, EnvR w → Calls Tryz.prog 35 #[.string (ratB p), .string (ratB q)] w fun e w' => e = .returned (.int .i64 (p - q).num.sign) ∧ Below w.heap.size w w' := fun w R => refRCompare_any p q (hp.mono (by decide)) (hq.mono (by decide)) w R
  have c2 : ∀ w, EnvR w → Calls Tryz.prog 36 #[.string (ratB p), .string (ratB q)] w fun e w' => e = .returned (.int .i64 (p - q).num.sign) ∧ Below w.heap.size w w' := fun w R => rcompare_any p q (hp.mono (by decide)) (hq.mono (by decide)) w R
  have c3 : ∀ w, EnvR w → Calls Tryz.prog 37 #[.string (ratB p)] w fun e w' => e = .returned (.int .i64 p.num.sign) ∧ Below w.heap.size w w' := fun w R => rsign_any p (hp.mono (by decide)) w R
  have c4 : ∀ w, EnvR w → Calls Tryz.prog 38 #[.string (ratB p)] w fun e w' => e = .returned (.int .i64 p.num.sign) ∧ Below w.heap.size w w' := fun w R => refRSign_any p w R
  have c5 : ∀ w, EnvR w → Calls Tryz.prog 39 #[.string (ratB p), .string (ratB q)] w fun e w' => e = .returned (.string (ratB q)) ∧ Below w.heap.size w w' := fun w R => rmin_b _ _ _ (by omega) (fun w R => rcompare_any p q (hp.mono (by decide)) (hq.mono (by decide)) w R) w R
  have c6 : ∀ w, EnvR w → Calls Tryz.prog 40 #[.string (ratB p), .string (ratB q)] w fun e w' => e = .returned (.string (ratB p)) ∧ Below w.heap.size w w' := fun w R => rmax_a _ _ _ (by omega) (fun w R => rcompare_any p q (hp.mono (by decide)) (hq.mono (by decide)) w R) w R
  have hz' : 0 < (p - q).num.sign := hz
  have za : (ratB p).size ≤ 9223372036854775807 := Nat.le_trans (size_of_RL hp) (by decide)
  have zb : (ratB q).size ≤ 9223372036854775807 := Nat.le_trans (size_of_RL hq) (by decide)
  have hf : fitP (ratB p) ∧ fitP (ratB q) := ⟨fp, fq⟩
  obtain ⟨z, ez⟩ : ∃ v, (p - q).num.sign = v := ⟨_, rfl⟩
  try simp only [ez] at c1 c2 c3 c4 c5 c6 hz' za zb hf ⊢
  obtain ⟨s, es⟩ : ∃ v, p.num.sign = v := ⟨_, rfl⟩
  try simp only [es] at c1 c2 c3 c4 c5 c6 hz' za zb hf ⊢
  obtain ⟨a, ea⟩ : ∃ v, ratB p = v := ⟨_, rfl⟩
  try simp only [ea] at c1 c2 c3 c4 c5 c6 hz' za zb hf ⊢
  obtain ⟨b, eb⟩ : ∃ v, ratB q = v := ⟨_, rfl⟩
  try simp only [eb] at c1 c2 c3 c4 c5 c6 hz' za zb hf ⊢
  have C1 := Lib.hid c1
  have C2 := Lib.hid c2
  have C3 := Lib.hid c3
  have C4 := Lib.hid c4
  have C5 := Lib.hid c5
  have C6 := Lib.hid c6
  clear c1 c2 c3 c4 c5 c6 ez es ea eb hz hp hq fp fq
  have HF := Lib.hid hf
  clear hf
  have hb := Below.refl w.heap.size w
  go_enter Tryz.func7, Tryz.ntmps7
  go_wp2_with (first | (go_at_call 13; refine (chain hb (known2_any _ (R.below hb))).mono ?_; clear hb; rintro e w1 ⟨rfl, hb⟩) | (go_at_call 30; refine (chainA hb (fits2 a b true ⟨fun _ => HF.out, fun _ => rfl⟩ _ (R.below hb) za zb)).mono ?_; clear hb; rintro e w1 ⟨rfl, hb⟩) | (go_at_call 35; ((with_reducible refine (chain hb (C1.out _ (R.below hb))).mono ?_); clear hb; rintro e w1 ⟨rfl, hb⟩)) | (go_at_call 36; ((with_reducible refine (chain hb (C2.out _ (R.below hb))).mono ?_); clear hb; rintro e w1 ⟨rfl, hb⟩)) | (go_at_call 37; ((with_reducible refine (chain hb (C3.out _ (R.below hb))).mono ?_); clear hb; rintro e w1 ⟨rfl, hb⟩)) | (go_at_call 38; ((with_reducible refine (chain hb (C4.out _ (R.below hb))).mono ?_); clear hb; rintro e w1 ⟨rfl, hb⟩)) | (go_at_call 39; ((with_reducible refine (chain hb (C5.out _ (R.below hb))).mono ?_); clear hb; rintro e w1 ⟨rfl, hb⟩)) | (go_at_call 40; ((with_reducible refine (chain hb (C6.out _ (R.below hb))).mono ?_); clear hb; rintro e w1 ⟨rfl, hb⟩)))
  go_ret
  exact ⟨rfl, hb⟩
set_option maxRecDepth 100000 in
set_option maxHeartbeats 4000000 in
theorem lawCompares_l (p q : Rat) (hp : RL p 80) (fp : fitP (ratB p)) (hq : RL q 80) (fq : fitP (ratB q)) (hz : (p - q).num.sign < 0) (w : World) (R : EnvR w) :
    Calls Tryz.prog 7 #[.string (ratB p), .string (ratB q)] w fun e w' => e = .returned (.bool true) ∧ Below w.heap.size w w' := by
  have c1 : ∀ w, EnvR w → Calls Tryz.prog 35 #[.string (ratB p), .string (ratB q)] w fun e w' => e = .returned (.int .i64 (p - q).num.sign) ∧ Below w.heap.size w w' := fun w R => refRCompare_any p q (hp.mono (by decide)) (hq.mono (by decide)) w R
  have c2 : ∀ w, EnvR w → Calls Tryz.prog 36 #[.string (ratB p), .string (ratB q)] w fun e w' => e = .returned (.int .i64 (p - q).num.sign) ∧ Below w.heap.size w w' := fun w R => rcompare_any p q (hp.mono (by decide)) (hq.mono (by decide)) w R
  have c3 : ∀ w, EnvR w → Calls Tryz.prog 37 #[.string (ratB p)] w fun e w' => e = .returned (.int .i64 p.num.sign) ∧ Below w.heap.size w w' := fun w R => rsign_any p (hp.mono (by decide)) w R
  have c4 : ∀ w, EnvR w → Calls Tryz.prog 38 #[.string (ratB p)] w fun e w' => e = .returned (.int .i64 p.num.sign) ∧ Below w.heap.size w w' := fun w R => refRSign_any p w R
  have c5 : ∀ w, EnvR w → Calls Tryz.prog 39 #[.string (ratB p), .string (ratB q)] w fun e w' => e = .returned (.string (ratB p)) ∧ Below w.heap.size w w' := fun w R => rmin_a _ _ _ (by omega) (fun w R => rcompare_any p q (hp.mono (by decide)) (hq.mono (by decide)) w R) w R
  have c6 : ∀ w, EnvR w → Calls Tryz.prog 40 #[.string (ratB p), .string (ratB q)] w fun e w' => e = .returned (.string (ratB q)) ∧ Below w.heap.size w w' := fun w R => rmax_b _ _ _ (by omega) (fun w R => rcompare_any p q (hp.mono (by decide)) (hq.mono (by decide)) w R) w R
  have hz' : (p - q).num.sign < 0 := hz
  have za : (ratB p).size ≤ 9223372036854775807 := Nat.le_trans (size_of_RL hp) (by decide)
  have zb : (ratB q).size ≤ 9223372036854775807 := Nat.le_trans (size_of_RL hq) (by decide)
  have hf : fitP (ratB p) ∧ fitP (ratB q) := ⟨fp, fq⟩
  obtain ⟨z, ez⟩ : ∃ v, (p - q).num.sign = v := ⟨_, rfl⟩
  try simp only [ez] at c1 c2 c3 c4 c5 c6 hz' za zb hf ⊢
  obtain ⟨s, es⟩ : ∃ v, p.num.sign = v := ⟨_, rfl⟩
  try simp only [es] at c1 c2 c3 c4 c5 c6 hz' za zb hf ⊢
  obtain ⟨a, ea⟩ : ∃ v, ratB p = v := ⟨_, rfl⟩
  try simp only [ea] at c1 c2 c3 c4 c5 c6 hz' za zb hf ⊢
  obtain ⟨b, eb⟩ : ∃ v, ratB q = v := ⟨_, rfl⟩
  try simp only [eb] at c1 c2 c3 c4 c5 c6 hz' za zb hf ⊢
  have C1 := Lib.hid c1
  have C2 := Lib.hid c2
  have C3 := Lib.hid c3
  have C4 := Lib.hid c4
  have C5 := Lib.hid c5
  have C6 := Lib.hid c6
  clear c1 c2 c3 c4 c5 c6 ez es ea eb hz hp hq fp fq
  have HF := Lib.hid hf
  clear hf
  have hb := Below.refl w.heap.size w
  go_enter Tryz.func7, Tryz.ntmps7
  go_wp2_with (first | (go_at_call 13; refine (chain hb (known2_any _ (R.below hb))).mono ?_; clear hb; rintro e w1 ⟨rfl, hb⟩) | (go_at_call 30; refine (chainA hb (fits2 a b true ⟨fun _ => HF.out, fun _ => rfl⟩ _ (R.below hb) za zb)).mono ?_; clear hb; rintro e w1 ⟨rfl, hb⟩) | (go_at_call 35; ((with_reducible refine (chain hb (C1.out _ (R.below hb))).mono ?_); clear hb; rintro e w1 ⟨rfl, hb⟩)) | (go_at_call 36; ((with_reducible refine (chain hb (C2.out _ (R.below hb))).mono ?_); clear hb; rintro e w1 ⟨rfl, hb⟩)) | (go_at_call 37; ((with_reducible refine (chain hb (C3.out _ (R.below hb))).mono ?_); clear hb; rintro e w1 ⟨rfl, hb⟩)) | (go_at_call 38; ((with_reducible refine (chain hb (C4.out _ (R.below hb))).mono ?_); clear hb; rintro e w1 ⟨rfl, hb⟩)) | (go_at_call 39; ((with_reducible refine (chain hb (C5.out _ (R.below hb))).mono ?_); clear hb; rintro e w1 ⟨rfl, hb⟩)) | (go_at_call 40; ((with_reducible refine (chain hb (C6.out _ (R.below hb))).mono ?_); clear hb; rintro e w1 ⟨rfl, hb⟩)))
  go_ret
  exact ⟨rfl, hb⟩
set_option maxRecDepth 100000 in
set_option maxHeartbeats 4000000 in
theorem lawCompares_e (p q : Rat) (hp : RL p 80) (fp : fitP (ratB p)) (hq : RL q 80) (fq : fitP (ratB q)) (hz : (p - q).num.sign = 0) (he : q = p) (w : World) (R : EnvR w) :
    Calls Tryz.prog 7 #[.string (ratB p), .string (ratB q)] w fun e w' => e = .returned (.bool true) ∧ Below w.heap.size w w' := by
  have c1 : ∀ w, EnvR w → Calls Tryz.prog 35 #[.string (ratB p), .string (ratB q)] w fun e w' => e = .returned (.int .i64 0) ∧ Below w.heap.size w w' := fun w R => by rw [← hz]; exact refRCompare_any p q (hp.mono (by decide)) (hq.mono (by decide)) w R
  have c2 : ∀ w, EnvR w → Calls Tryz.prog 36 #[.string (ratB p), .string (ratB q)] w fun e w' => e = .returned (.int .i64 0) ∧ Below w.heap.size w w' := fun w R => by rw [← hz]; exact rcompare_any p q (hp.mono (by decide)) (hq.mono (by decide)) w R
  have c3 : ∀ w, EnvR w → Calls Tryz.prog 37 #[.string (ratB p)] w fun e w' => e = .returned (.int .i64 p.num.sign) ∧ Below w.heap.size w w' := fun w R => rsign_any p (hp.mono (by decide)) w R
  have c4 : ∀ w, EnvR w → Calls Tryz.prog 38 #[.string (ratB p)] w fun e w' => e = .returned (.int .i64 p.num.sign) ∧ Below w.heap.size w w' := fun w R => refRSign_any p w R
  have c5 : ∀ w, EnvR w → Calls Tryz.prog 39 #[.string (ratB p), .string (ratB q)] w fun e w' => e = .returned (.string (ratB p)) ∧ Below w.heap.size w w' := fun w R => rmin_a _ _ _ (by omega) (fun w R => rcompare_any p q (hp.mono (by decide)) (hq.mono (by decide)) w R) w R
  have c6 : ∀ w, EnvR w → Calls Tryz.prog 40 #[.string (ratB p), .string (ratB q)] w fun e w' => e = .returned (.string (ratB q)) ∧ Below w.heap.size w w' := fun w R => (rmax_a (ratB p) (ratB q) _ (by omega) (fun w R => rcompare_any p q (hp.mono (by decide)) (hq.mono (by decide)) w R) w R).mono fun e w' h => ⟨h.1.trans (by rw [he]), h.2⟩
  have za : (ratB p).size ≤ 9223372036854775807 := Nat.le_trans (size_of_RL hp) (by decide)
  have zb : (ratB q).size ≤ 9223372036854775807 := Nat.le_trans (size_of_RL hq) (by decide)
  have hf : fitP (ratB p) ∧ fitP (ratB q) := ⟨fp, fq⟩
  obtain ⟨s, es⟩ : ∃ v, p.num.sign = v := ⟨_, rfl⟩
  try simp only [es] at c1 c2 c3 c4 c5 c6 za zb hf ⊢
  obtain ⟨a, ea⟩ : ∃ v, ratB p = v := ⟨_, rfl⟩
  try simp only [ea] at c1 c2 c3 c4 c5 c6 za zb hf ⊢
  obtain ⟨b, eb⟩ : ∃ v, ratB q = v := ⟨_, rfl⟩
  try simp only [eb] at c1 c2 c3 c4 c5 c6 za zb hf ⊢
  have C1 := Lib.hid c1
  have C2 := Lib.hid c2
  have C3 := Lib.hid c3
  have C4 := Lib.hid c4
  have C5 := Lib.hid c5
  have C6 := Lib.hid c6
  clear c1 c2 c3 c4 c5 c6 es ea eb hz he hp hq fp fq
  have HF := Lib.hid hf
  clear hf
  have hb := Below.refl w.heap.size w
  go_enter Tryz.func7, Tryz.ntmps7
  go_wp2_with (first | (go_at_call 13; refine (chain hb (known2_any _ (R.below hb))).mono ?_; clear hb; rintro e w1 ⟨rfl, hb⟩) | (go_at_call 30; refine (chainA hb (fits2 a b true ⟨fun _ => HF.out, fun _ => rfl⟩ _ (R.below hb) za zb)).mono ?_; clear hb; rintro e w1 ⟨rfl, hb⟩) | (go_at_call 35; ((with_reducible refine (chain hb (C1.out _ (R.below hb))).mono ?_); clear hb; rintro e w1 ⟨rfl, hb⟩)) | (go_at_call 36; ((with_reducible refine (chain hb (C2.out _ (R.below hb))).mono ?_); clear hb; rintro e w1 ⟨rfl, hb⟩)) | (go_at_call 37; ((with_reducible refine (chain hb (C3.out _ (R.below hb))).mono ?_); clear hb; rintro e w1 ⟨rfl, hb⟩)) | (go_at_call 38; ((with_reducible refine (chain hb (C4.out _ (R.below hb))).mono ?_); clear hb; rintro e w1 ⟨rfl, hb⟩)) | (go_at_call 39; ((with_reducible refine (chain hb (C5.out _ (R.below hb))).mono ?_); clear hb; rintro e w1 ⟨rfl, hb⟩)) | (go_at_call 40; ((with_reducible refine (chain hb (C6.out _ (R.below hb))).mono ?_); clear hb; rintro e w1 ⟨rfl, hb⟩)))
  go_ret
  exact ⟨rfl, hb⟩
theorem lawCompares (a b : ByteArray) (w : World) (R : EnvR w) (has : a.size ≤ maxLen) (hbs : b.size ≤ maxLen) :
    Calls Tryz.prog 7 #[.string a, .string b] w fun e w' => e = .returned (.bool true) ∧ Below w.heap.size w w' := by
  by_cases hf : fitP a ∧ fitP b
  · obtain ⟨p, rfl, hp⟩ := fit_rat hf.1
    obtain ⟨q, rfl, hq⟩ := fit_rat hf.2
    rcases Int.lt_trichotomy (p - q).num.sign 0 with h | h | h
    · exact lawCompares_l p q hp hf.1 hq hf.2 h w R
    · refine lawCompares_e p q hp hf.1 hq hf.2 h ?_ w R
      have h2 : (p - q).num = 0 := Int.sign_eq_zero_iff_zero.1 h
      have h3 := Rat.num_eq_zero.1 h2
      have h4 : p - q + q = 0 + q := by rw [h3]
      rw [Rat.sub_add_cancel, Rat.zero_add] at h4
      exact h4.symm
    · exact lawCompares_g p q hp hf.1 hq hf.2 h w R
  · exact lawCompares_out a b hf w R has hbs
end Go.Proofs.YtgllflfifbacnaaGreatDoor.Kl
