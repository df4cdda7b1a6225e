/- The walk of klippelaw02.RationalRoots: true, whatever the texts. -/
import Derived.Test.YtgllflfifbacnaaGreatDoorKlRatY
import Derived.Test.YtgllflfifbacnaaGreatDoorKlRatS
import Derived.Test.YtgllflfifbacnaaGreatDoorKlKnown2
import Derived.Test.YtgllflfifbacnaaGreatDoorKlRatE
namespace Go.Proofs.YtgllflfifbacnaaGreatDoor.Kl
open Go Go.RowKit

set_option maxRecDepth 100000 in
set_option maxHeartbeats 2000000 in
theorem lawRoots_out (a : ByteArray) (hf : ¬ (fitP a)) (w : World) (R : EnvR w) (has : a.size ≤ maxLen) :
    Calls Tryz.prog 11 #[.string a] w fun e w' => e = .returned (.bool true) ∧ Below w.heap.size w w' := by
  have za : a.size ≤ 9223372036854775807 := by unfold maxLen at has; omega
  have HF := Lib.hid hf
  clear hf
  have hb := Below.refl w.heap.size w
  go_enter Tryz.func11, Tryz.ntmps11
  go_wp2_with (first | (go_at_call 13; refine (chain hb (known2_any _ (R.below hb))).mono ?_; clear hb; rintro e w1 ⟨rfl, hb⟩) | (go_at_call 30; refine (chainA hb (fits1 a false ⟨fun h => (by cases h), fun h => absurd h HF.out⟩ _ (R.below hb) za)).mono ?_; clear hb; rintro e w1 ⟨rfl, hb⟩))
  go_ret
  exact ⟨rfl, hb⟩
set_option maxRecDepth 100000 in
set_option maxHeartbeats 4000000 in
theorem lawRoots_in (p : Rat) (hp : RL p 80) (fp : fitP (ratB p)) (w : World) (R : EnvR w) :
    Calls Tryz.prog 11 #[.string (ratB p)] w fun e w' => e = .returned (.bool true) ∧ Below w.heap.size w w' := by
  have c1 : ∀ w, EnvR w → Calls Tryz.prog 58 #[.string (ratB p)] w fun e w' => e = .returned (.tuple #[.string (if sqB p.num && sqB p.den then ratB (rootQ p) else ⟨#[]⟩), .bool (sqB p.num && sqB p.den)]) ∧ Below w.heap.size w w' := fun w R => rroot_any p w R (hp.mono (by decide))
  have c2 : ∀ w, EnvR w → Calls Tryz.prog 59 #[.string (ratB p)] w fun e w' => e = .returned (.tuple #[.string (if sqB p.num && sqB p.den then ratB (rootQ p) else ⟨#[]⟩), .bool (sqB p.num && sqB p.den)]) ∧ Below w.heap.size w w' := fun w R => refRRoot_any p w R (hp.mono (by decide))
  have c3 : ∀ w, EnvR w → Calls Tryz.prog 34 #[.string (ratB p), .string (ratB p)] w fun e w' => e = .returned (.string (ratB (p * p))) ∧ Below w.heap.size w w' := fun w R => refRMul_any p p w R (hp.mono (by decide)) (hp.mono (by decide))
  have c4 : ∀ w, EnvR w → Calls Tryz.prog 58 #[.string (ratB (p * p))] w fun e w' => e = .returned (.tuple #[.string (ratB p.abs), .bool true]) ∧ Below w.heap.size w w' := fun w R => by have := rroot_any (p * p) w R ((RL_mul (by decide) hp hp).mono (by decide)); obtain ⟨s1, s2, s3⟩ := sq_root p; rwa [s1, s2, s3] at this
  have c5 : ∀ w, EnvR w → Calls Tryz.prog 48 #[.string (ratB p)] w fun e w' => e = .returned (.string (ratB p.abs)) ∧ Below w.heap.size w w' := fun w R => refRAbs_any p w R (hp.mono (by decide))
  have za : (ratB p).size ≤ 9223372036854775807 := Nat.le_trans (size_of_RL hp) (by decide)
  have hf : fitP (ratB p) := fp
  obtain ⟨v, ev⟩ : ∃ v, (if sqB p.num && sqB p.den then ratB (rootQ p) else ⟨#[]⟩) = v := ⟨_, rfl⟩
  try simp only [ev] at c1 c2 c3 c4 c5 za hf ⊢
  obtain ⟨b, eb⟩ : ∃ v, (sqB p.num && sqB p.den) = v := ⟨_, rfl⟩
  try simp only [eb] at c1 c2 c3 c4 c5 za hf ⊢
  obtain ⟨m, em⟩ : ∃ v, ratB p.abs = v := ⟨_, rfl⟩
  try simp only [em] at c1 c2 c3 c4 c5 za hf ⊢
  obtain ⟨t, et⟩ : ∃ v, ratB (p * p) = v := ⟨_, rfl⟩
  try simp only [et] at c1 c2 c3 c4 c5 za hf ⊢
  obtain ⟨a, ea⟩ : ∃ v, ratB p = v := ⟨_, rfl⟩
  try simp only [ea] at c1 c2 c3 c4 c5 za hf ⊢
  have C1 := Lib.hid c1
  have C2 := Lib.hid c2
  have C3 := Lib.hid c3
  have C4 := Lib.hid c4
  have C5 := Lib.hid c5
  clear c1 c2 c3 c4 c5 ev eb em et ea hp fp
  have HF := Lib.hid hf
  clear hf
  have hb := Below.refl w.heap.size w
  go_enter Tryz.func11, Tryz.ntmps11
  go_wp2_with (first | (go_at_call 13; refine (chain hb (known2_any _ (R.below hb))).mono ?_; clear hb; rintro e w1 ⟨rfl, hb⟩) | (go_at_call 30; refine (chainA hb (fits1 a true ⟨fun _ => HF.out, fun _ => rfl⟩ _ (R.below hb) za)).mono ?_; clear hb; rintro e w1 ⟨rfl, hb⟩) | (go_at_call 58; first | ((with_reducible refine (chain hb (C1.out _ (R.below hb))).mono ?_); clear hb; rintro e w1 ⟨rfl, hb⟩) | ((with_reducible refine (chain hb (C4.out _ (R.below hb))).mono ?_); clear hb; rintro e w1 ⟨rfl, hb⟩)) | (go_at_call 59; ((with_reducible refine (chain hb (C2.out _ (R.below hb))).mono ?_); clear hb; rintro e w1 ⟨rfl, hb⟩)) | (go_at_call 34; ((with_reducible refine (chain hb (C3.out _ (R.below hb))).mono ?_); clear hb; rintro e w1 ⟨rfl, hb⟩)) | (go_at_call 48; ((with_reducible refine (chain hb (C5.out _ (R.below hb))).mono ?_); clear hb; rintro e w1 ⟨rfl, hb⟩)))
  go_ret
  exact ⟨rfl, hb⟩
theorem lawRoots (a : ByteArray) (w : World) (R : EnvR w) (has : a.size ≤ maxLen) :
    Calls Tryz.prog 11 #[.string a] w fun e w' => e = .returned (.bool true) ∧ Below w.heap.size w w' := by
  by_cases hf : fitP a
  · obtain ⟨p, rfl, hp⟩ := fit_rat hf
    exact lawRoots_in p hp hf w R
  · exact lawRoots_out a hf w R has
end Go.Proofs.YtgllflfifbacnaaGreatDoor.Kl
