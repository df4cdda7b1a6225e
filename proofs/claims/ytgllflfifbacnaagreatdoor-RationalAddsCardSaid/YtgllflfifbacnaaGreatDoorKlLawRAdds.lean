/- The walk of klippelaw02.RationalAdds: true, whatever the texts. -/
import Derived.Test.YtgllflfifbacnaaGreatDoorKlRatU
namespace Go.Proofs.YtgllflfifbacnaaGreatDoor.Kl
open Go Go.RowKit

set_option maxRecDepth 100000 in
set_option maxHeartbeats 2000000 in
theorem lawAdds_out (a b c : ByteArray) (hf : ¬ (fitP a ∧ fitP b ∧ fitP c)) (w : World) (R : EnvR w) (has : a.size ≤ maxLen) (hbs : b.size ≤ maxLen) (hcs : c.size ≤ maxLen) :
    Calls Tryz.prog 8 #[.string a, .string b, .string c] w fun e w' => e = .returned (.bool true) ∧ Below w.heap.size w w' := by
  have za : a.size ≤ 9223372036854775807 := by unfold maxLen at has; omega
  have zb : b.size ≤ 9223372036854775807 := by unfold maxLen at hbs; omega
  have zc : c.size ≤ 9223372036854775807 := by unfold maxLen at hcs; omega
  have HF := Lib.hid hf
  clear hf
  have hb := Below.refl w.heap.size w
  go_enter Tryz.func8, Tryz.ntmps8
  go_wp2_with (first | (go_at_call 13; refine (chain hb (known2_any _ (R.below hb))).mono ?_; clear hb; rintro e w1 ⟨rfl, hb⟩) | (go_at_call 30; refine (chainA hb (fits3 a b c false ⟨fun h => (by cases h), fun h => absurd h HF.out⟩ _ (R.below hb) za zb zc)).mono ?_; clear hb; rintro e w1 ⟨rfl, hb⟩))
  go_ret
  exact ⟨rfl, hb⟩
set_option maxRecDepth 100000 in
set_option maxHeartbeats 4000000 in
theorem lawAdds_in (p q t : Rat) (hp : RL p 80) (fp : fitP (ratB p)) (hq : RL q 80) (fq : fitP (ratB q)) (ht : RL t 80) (ft : fitP (ratB t)) (w : World) (R : EnvR w) :
    Calls Tryz.prog 8 #[.string (ratB p), .string (ratB q), .string (ratB t)] w fun e w' => e = .returned (.bool true) ∧ Below w.heap.size w w' := by
  have c1 : ∀ w, EnvR w → Calls Tryz.prog 41 #[.string (ratB p), .string (ratB q)] w fun e w' => e = .returned (.string (ratB (p + q))) ∧ Below w.heap.size w w' := fun w R => refRAdd_any p q w R (hp.mono (by decide)) (hq.mono (by decide))
  have c2 : ∀ w, EnvR w → Calls Tryz.prog 42 #[.string (ratB p), .string (ratB q)] w fun e w' => e = .returned (.string (ratB (p + q))) ∧ Below w.heap.size w w' := fun w R => radd_any p q (hp.mono (by decide)) (hq.mono (by decide)) w R
  have c3 : ∀ w, EnvR w → Calls Tryz.prog 43 #[.string (ratB p), .string (ratB q)] w fun e w' => e = .returned (.string (ratB (p - q))) ∧ Below w.heap.size w w' := fun w R => rsub_any p q (hp.mono (by decide)) (hq.mono (by decide)) w R
  have c4 : ∀ w, EnvR w → Calls Tryz.prog 44 #[.string (ratB p), .string (ratB q)] w fun e w' => e = .returned (.string (ratB (p - q))) ∧ Below w.heap.size w w' := fun w R => refRSub_any p q (hp.mono (by decide)) (hq.mono (by decide)) w R
  have c5 : ∀ w, EnvR w → Calls Tryz.prog 45 #[.string (ratB p)] w fun e w' => e = .returned (.string (ratB (-p))) ∧ Below w.heap.size w w' := fun w R => rneg_any p (hp.mono (by decide)) w R
  have c6 : ∀ w, EnvR w → Calls Tryz.prog 46 #[.string (ratB p)] w fun e w' => e = .returned (.string (ratB (-p))) ∧ Below w.heap.size w w' := fun w R => refRNeg_any p w R (hp.mono (by decide))
  have c7 : ∀ w, EnvR w → Calls Tryz.prog 47 #[.string (ratB p)] w fun e w' => e = .returned (.string (ratB p.abs)) ∧ Below w.heap.size w w' := fun w R => rabs_any p (hp.mono (by decide)) w R
  have c8 : ∀ w, EnvR w → Calls Tryz.prog 48 #[.string (ratB p)] w fun e w' => e = .returned (.string (ratB p.abs)) ∧ Below w.heap.size w w' := fun w R => refRAbs_any p w R (hp.mono (by decide))
  have c9 : ∀ w, EnvR w → Calls Tryz.prog 41 #[.string (ratB (p + q)), .string (ratB t)] w fun e w' => e = .returned (.string (ratB (p + q + t))) ∧ Below w.heap.size w w' := fun w R => refRAdd_any (p + q) t w R ((RL_add (by decide) hp hq).mono (by decide)) (ht.mono (by decide))
  have c10 : ∀ w, EnvR w → Calls Tryz.prog 50 #[.string (ratB p), .string (ratB q)] w fun e w' => e = .returned (.string (ratB ((p + q) * Rat.divInt 1 2))) ∧ Below w.heap.size w w' := fun w R => rmiddle_any p q (hp.mono (by decide)) (hq.mono (by decide)) w R
  have c11 : ∀ w, EnvR w → Calls Tryz.prog 34 #[.string (ratB (p + q)), .string ⟨#[49, 47, 50]⟩] w fun e w' => e = .returned (.string (ratB ((p + q) * Rat.divInt 1 2))) ∧ Below w.heap.size w w' := fun w R => by have := refRMul_any (p + q) (Rat.divInt 1 2) w R ((RL_add (by decide) hp hq).mono (by decide)) (RL_half.mono (by decide)); rwa [half_text] at this
  have su : ∀ w, EnvR w → Calls Tryz.prog 49 #[.slice (some ⟨w.heap.size, 0, none⟩) 3 3] (w.alloc (Obj.cells #[Value.string (ratB p), Value.string (ratB q), Value.string (ratB t)] 22)) fun e w' => e = .returned (.string (ratB (p + q + t))) ∧ Below w.heap.size w w' := fun w R => rsum3 p q t hp hq ht w R
  have za : (ratB p).size ≤ 9223372036854775807 := Nat.le_trans (size_of_RL hp) (by decide)
  have zb : (ratB q).size ≤ 9223372036854775807 := Nat.le_trans (size_of_RL hq) (by decide)
  have zc : (ratB t).size ≤ 9223372036854775807 := Nat.le_trans (size_of_RL ht) (by decide)
  have hf : fitP (ratB p) ∧ fitP (ratB q) ∧ fitP (ratB t) := ⟨fp, fq, ft⟩
  obtain ⟨r1, er1⟩ : ∃ v, ratB ((p + q) * Rat.divInt 1 2) = v := ⟨_, rfl⟩
  try simp only [er1] at c1 c2 c3 c4 c5 c6 c7 c8 c9 c10 c11 su za zb zc hf ⊢
  obtain ⟨r2, er2⟩ : ∃ v, ratB (p + q + t) = v := ⟨_, rfl⟩
  try simp only [er2] at c1 c2 c3 c4 c5 c6 c7 c8 c9 c10 c11 su za zb zc hf ⊢
  obtain ⟨r3, er3⟩ : ∃ v, ratB (p + q) = v := ⟨_, rfl⟩
  try simp only [er3] at c1 c2 c3 c4 c5 c6 c7 c8 c9 c10 c11 su za zb zc hf ⊢
  obtain ⟨r4, er4⟩ : ∃ v, ratB (p - q) = v := ⟨_, rfl⟩
  try simp only [er4] at c1 c2 c3 c4 c5 c6 c7 c8 c9 c10 c11 su za zb zc hf ⊢
  obtain ⟨r5, er5⟩ : ∃ v, ratB (-p) = v := ⟨_, rfl⟩
  try simp only [er5] at c1 c2 c3 c4 c5 c6 c7 c8 c9 c10 c11 su za zb zc hf ⊢
  obtain ⟨r6, er6⟩ : ∃ v, ratB p.abs = v := ⟨_, rfl⟩
  try simp only [er6] at c1 c2 c3 c4 c5 c6 c7 c8 c9 c10 c11 su za zb zc hf ⊢
  obtain ⟨a, ea⟩ : ∃ v, ratB p = v := ⟨_, rfl⟩
  try simp only [ea] at c1 c2 c3 c4 c5 c6 c7 c8 c9 c10 c11 su za zb zc hf ⊢
  obtain ⟨b, eb⟩ : ∃ v, ratB q = v := ⟨_, rfl⟩
  try simp only [eb] at c1 c2 c3 c4 c5 c6 c7 c8 c9 c10 c11 su za zb zc hf ⊢
  obtain ⟨c, ec⟩ : ∃ v, ratB t = v := ⟨_, rfl⟩
  try simp only [ec] at c1 c2 c3 c4 c5 c6 c7 c8 c9 c10 c11 su za zb zc hf ⊢
  have C1 := Lib.hid c1
  have C2 := Lib.hid c2
  have C3 := Lib.hid c3
  have C4 := Lib.hid c4
  have C5 := Lib.hid c5
  have C6 := Lib.hid c6
  have C7 := Lib.hid c7
  have C8 := Lib.hid c8
  have C9 := Lib.hid c9
  have C10 := Lib.hid c10
  have C11 := Lib.hid c11
  clear c1 c2 c3 c4 c5 c6 c7 c8 c9 c10 c11 er1 er2 er3 er4 er5 er6 ea eb ec hp hq ht fp fq ft
  have HF := Lib.hid hf
  clear hf
  have SU := Lib.hid su
  clear su
  have hb := Below.refl w.heap.size w
  go_enter Tryz.func8, Tryz.ntmps8
  go_wp2_with (first | (go_at_call 13; refine (chain hb (known2_any _ (R.below hb))).mono ?_; clear hb; rintro e w1 ⟨rfl, hb⟩) | (go_at_call 30; refine (chainA hb (fits3 a b c true ⟨fun _ => HF.out, fun _ => rfl⟩ _ (R.below hb) za zb zc)).mono ?_; clear hb; rintro e w1 ⟨rfl, hb⟩) | (go_at_call 41; first | ((with_reducible refine (chain hb (C1.out _ (R.below hb))).mono ?_); clear hb; rintro e w1 ⟨rfl, hb⟩) | ((with_reducible refine (chain hb (C9.out _ (R.below hb))).mono ?_); clear hb; rintro e w1 ⟨rfl, hb⟩)) | (go_at_call 42; ((with_reducible refine (chain hb (C2.out _ (R.below hb))).mono ?_); clear hb; rintro e w1 ⟨rfl, hb⟩)) | (go_at_call 43; ((with_reducible refine (chain hb (C3.out _ (R.below hb))).mono ?_); clear hb; rintro e w1 ⟨rfl, hb⟩)) | (go_at_call 44; ((with_reducible refine (chain hb (C4.out _ (R.below hb))).mono ?_); clear hb; rintro e w1 ⟨rfl, hb⟩)) | (go_at_call 45; ((with_reducible refine (chain hb (C5.out _ (R.below hb))).mono ?_); clear hb; rintro e w1 ⟨rfl, hb⟩)) | (go_at_call 46; ((with_reducible refine (chain hb (C6.out _ (R.below hb))).mono ?_); clear hb; rintro e w1 ⟨rfl, hb⟩)) | (go_at_call 47; ((with_reducible refine (chain hb (C7.out _ (R.below hb))).mono ?_); clear hb; rintro e w1 ⟨rfl, hb⟩)) | (go_at_call 48; ((with_reducible refine (chain hb (C8.out _ (R.below hb))).mono ?_); clear hb; rintro e w1 ⟨rfl, hb⟩)) | (go_at_call 50; ((with_reducible refine (chain hb (C10.out _ (R.below hb))).mono ?_); clear hb; rintro e w1 ⟨rfl, hb⟩)) | (go_at_call 34; ((with_reducible refine (chain hb (C11.out _ (R.below hb))).mono ?_); clear hb; rintro e w1 ⟨rfl, hb⟩)) | (go_at_call 49; first | ((with_reducible refine (chain hb (rsum0 _ (R.below hb))).mono ?_); clear hb; rintro e w1 ⟨rfl, hb⟩) | (refine (chainA hb (SU.out _ (R.below hb))).mono ?_; clear hb; rintro e w1 ⟨rfl, hb⟩)))
  go_ret
  exact ⟨rfl, hb⟩
theorem lawAdds (a b c : ByteArray) (w : World) (R : EnvR w) (has : a.size ≤ maxLen) (hbs : b.size ≤ maxLen) (hcs : c.size ≤ maxLen) :
    Calls Tryz.prog 8 #[.string a, .string b, .string c] w fun e w' => e = .returned (.bool true) ∧ Below w.heap.size w w' := by
  by_cases hf : fitP a ∧ fitP b ∧ fitP c
  · obtain ⟨p, rfl, hp⟩ := fit_rat hf.1
    obtain ⟨q, rfl, hq⟩ := fit_rat hf.2.1
    obtain ⟨t, rfl, ht⟩ := fit_rat hf.2.2
    exact lawAdds_in p q t hp hf.1 hq hf.2.1 ht hf.2.2 w R
  · exact lawAdds_out a b c hf w R has hbs hcs
end Go.Proofs.YtgllflfifbacnaaGreatDoor.Kl
