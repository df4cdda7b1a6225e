/- Contracts: the reference's root of a fraction. -/
import Derived.Test.YtgllflfifbacnaaGreatDoorKlRatV
import Derived.Test.YtgllflfifbacnaaGreatDoorKlRatF
import Derived.Test.YtgllflfifbacnaaGreatDoorKlRefRoot
namespace Go.Proofs.YtgllflfifbacnaaGreatDoor.Kl
open Go Go.RowKit

set_option maxRecDepth 100000 in
set_option maxHeartbeats 200000 in
theorem refRRoot_neg (q : Rat) (hq : RL q 200) (h : q.num < 0) (w : World) (R : EnvR w) :
    Calls Tryz.prog 59 #[.string (ratB q)] w fun e w' => e = .returned (.tuple #[.string ⟨#[]⟩, .bool false]) ∧ Below w.heap.size w w' := by
  have c1 : ∀ w, EnvR w → Calls Tryz.prog 16 #[.string (ratB q)] w fun e w' => e = .returned (.tuple #[.string (itoaB q.num), .string (itoaB (q.den : Int))]) ∧ Below w.heap.size w w' := fun w R => refParts_any q w R (hq.mono (by decide))
  have c2 : ∀ w, EnvR w → Calls Tryz.prog 79 #[.string (itoaB q.num)] w fun e w' => e = .returned (.int .i64 q.num.sign) ∧ Below w.heap.size w w' := fun w R => refSign_any q.num w
  have hs : q.num.sign < 0 := by rw [Int.sign_eq_neg_one_of_neg h]; decide
  obtain ⟨sg, esg⟩ : ∃ v, q.num.sign = v := ⟨_, rfl⟩
  try simp only [esg] at c1 c2 hs ⊢
  obtain ⟨n, en⟩ : ∃ v, itoaB q.num = v := ⟨_, rfl⟩
  try simp only [en] at c1 c2 hs ⊢
  obtain ⟨d, ed⟩ : ∃ v, itoaB (q.den : Int) = v := ⟨_, rfl⟩
  try simp only [ed] at c1 c2 hs ⊢
  obtain ⟨s, es⟩ : ∃ v, ratB q = v := ⟨_, rfl⟩
  try simp only [es] at c1 c2 hs ⊢
  have C1 := Lib.hid c1
  have C2 := Lib.hid c2
  clear c1 c2 esg en ed es hq
  have hb := Below.refl w.heap.size w
  go_enter Tryz.func59, Tryz.ntmps59
  go_wp2_with (first | (go_at_call 16; ((with_reducible refine (chain hb (C1.out _ (R.below hb))).mono ?_); clear hb; rintro e w1 ⟨rfl, hb⟩)) | (go_at_call 79; ((with_reducible refine (chain hb (C2.out _ (R.below hb))).mono ?_); clear hb; rintro e w1 ⟨rfl, hb⟩)))
  go_ret2
  exact ⟨rfl, hb⟩
set_option maxRecDepth 100000 in
set_option maxHeartbeats 1000000 in
theorem refRRoot_top (q : Rat) (hq : RL q 200) (h : 0 ≤ q.num) (ha : (rootN q.num.toNat : Int) * (rootN q.num.toNat : Int) ≠ q.num) (w : World) (R : EnvR w) :
    Calls Tryz.prog 59 #[.string (ratB q)] w fun e w' => e = .returned (.tuple #[.string ⟨#[]⟩, .bool false]) ∧ Below w.heap.size w w' := by
  have da : dlen (rootN q.num.toNat : Int) ≤ 200 := dlen_nat_le _ q.num _ (by decide) (Nat.le_trans (rootN_le _) (by omega)) hq.1
  have db : dlen (rootN q.den : Int) ≤ 200 := dlen_nat_le _ (q.den : Int) _ (by decide) (rootN_le _) hq.2
  have c1 : ∀ w, EnvR w → Calls Tryz.prog 16 #[.string (ratB q)] w fun e w' => e = .returned (.tuple #[.string (itoaB q.num), .string (itoaB (q.den : Int))]) ∧ Below w.heap.size w w' := fun w R => refParts_any q w R (hq.mono (by decide))
  have c2 : ∀ w, EnvR w → Calls Tryz.prog 79 #[.string (itoaB q.num)] w fun e w' => e = .returned (.int .i64 q.num.sign) ∧ Below w.heap.size w w' := fun w R => refSign_any q.num w
  have c3 : ∀ w, EnvR w → Calls Tryz.prog 113 #[.string (itoaB q.num)] w fun e w' => e = .returned (.string (itoaB (rootN q.num.toNat : Int))) ∧ Below w.heap.size w w' := fun w R => by have := refRoot_any q.num.toNat w R.env (by rw [Int.toNat_of_nonneg h]; exact hq.1); rwa [Int.toNat_of_nonneg h] at this
  have c4 : ∀ w, EnvR w → Calls Tryz.prog 113 #[.string (itoaB (q.den : Int))] w fun e w' => e = .returned (.string (itoaB (rootN q.den : Int))) ∧ Below w.heap.size w w' := fun w R => refRoot_any q.den w R.env hq.2
  have c5 : ∀ w, EnvR w → Calls Tryz.prog 99 #[.string (itoaB (rootN q.num.toNat : Int)), .string (itoaB (rootN q.num.toNat : Int))] w fun e w' => e = .returned (.string (itoaB ((rootN q.num.toNat : Int) * (rootN q.num.toNat : Int)))) ∧ Below w.heap.size w w' := fun w R => refMul_any _ _ w R.env (by omega) (by omega)
  have hs : 0 ≤ q.num.sign := Int.sign_nonneg_iff.2 h
  have e0 : ((itoaB ((rootN q.num.toNat : Int) * (rootN q.num.toNat : Int))).toList == (itoaB q.num).toList) = false := by rw [itoaB_eq]; exact decide_eq_false ha
  obtain ⟨u, eu⟩ : ∃ v, itoaB ((rootN q.num.toNat : Int) * (rootN q.num.toNat : Int)) = v := ⟨_, rfl⟩
  try simp only [eu] at c1 c2 c3 c4 c5 hs e0 ⊢
  obtain ⟨a, ea⟩ : ∃ v, itoaB (rootN q.num.toNat : Int) = v := ⟨_, rfl⟩
  try simp only [ea] at c1 c2 c3 c4 c5 hs e0 ⊢
  obtain ⟨b, eb⟩ : ∃ v, itoaB (rootN q.den : Int) = v := ⟨_, rfl⟩
  try simp only [eb] at c1 c2 c3 c4 c5 hs e0 ⊢
  obtain ⟨sg, esg⟩ : ∃ v, q.num.sign = v := ⟨_, rfl⟩
  try simp only [esg] at c1 c2 c3 c4 c5 hs e0 ⊢
  obtain ⟨n, en⟩ : ∃ v, itoaB q.num = v := ⟨_, rfl⟩
  try simp only [en] at c1 c2 c3 c4 c5 hs e0 ⊢
  obtain ⟨d, ed⟩ : ∃ v, itoaB (q.den : Int) = v := ⟨_, rfl⟩
  try simp only [ed] at c1 c2 c3 c4 c5 hs e0 ⊢
  obtain ⟨s, es⟩ : ∃ v, ratB q = v := ⟨_, rfl⟩
  try simp only [es] at c1 c2 c3 c4 c5 hs e0 ⊢
  have C1 := Lib.hid c1
  have C2 := Lib.hid c2
  have C3 := Lib.hid c3
  have C4 := Lib.hid c4
  have C5 := Lib.hid c5
  clear c1 c2 c3 c4 c5 eu ea eb esg en ed es hq ha da db
  have hb := Below.refl w.heap.size w
  go_enter Tryz.func59, Tryz.ntmps59
  go_wp2_with (first | (go_at_call 16; ((with_reducible refine (chain hb (C1.out _ (R.below hb))).mono ?_); clear hb; rintro e w1 ⟨rfl, hb⟩)) | (go_at_call 79; ((with_reducible refine (chain hb (C2.out _ (R.below hb))).mono ?_); clear hb; rintro e w1 ⟨rfl, hb⟩)) | (go_at_call 113; first | ((with_reducible refine (chain hb (C3.out _ (R.below hb))).mono ?_); clear hb; rintro e w1 ⟨rfl, hb⟩) | ((with_reducible refine (chain hb (C4.out _ (R.below hb))).mono ?_); clear hb; rintro e w1 ⟨rfl, hb⟩)) | (go_at_call 99; ((with_reducible refine (chain hb (C5.out _ (R.below hb))).mono ?_); clear hb; rintro e w1 ⟨rfl, hb⟩)))
  go_ret2
  exact ⟨rfl, hb⟩
set_option maxRecDepth 100000 in
set_option maxHeartbeats 1000000 in
theorem refRRoot_bot (q : Rat) (hq : RL q 200) (h : 0 ≤ q.num) (ha : (rootN q.num.toNat : Int) * (rootN q.num.toNat : Int) = q.num) (hb' : (rootN q.den : Int) * (rootN q.den : Int) ≠ (q.den : Int)) (w : World) (R : EnvR w) :
    Calls Tryz.prog 59 #[.string (ratB q)] w fun e w' => e = .returned (.tuple #[.string ⟨#[]⟩, .bool false]) ∧ Below w.heap.size w w' := by
  have da : dlen (rootN q.num.toNat : Int) ≤ 200 := dlen_nat_le _ q.num _ (by decide) (Nat.le_trans (rootN_le _) (by omega)) hq.1
  have db : dlen (rootN q.den : Int) ≤ 200 := dlen_nat_le _ (q.den : Int) _ (by decide) (rootN_le _) hq.2
  have c1 : ∀ w, EnvR w → Calls Tryz.prog 16 #[.string (ratB q)] w fun e w' => e = .returned (.tuple #[.string (itoaB q.num), .string (itoaB (q.den : Int))]) ∧ Below w.heap.size w w' := fun w R => refParts_any q w R (hq.mono (by decide))
  have c2 : ∀ w, EnvR w → Calls Tryz.prog 79 #[.string (itoaB q.num)] w fun e w' => e = .returned (.int .i64 q.num.sign) ∧ Below w.heap.size w w' := fun w R => refSign_any q.num w
  have c3 : ∀ w, EnvR w → Calls Tryz.prog 113 #[.string (itoaB q.num)] w fun e w' => e = .returned (.string (itoaB (rootN q.num.toNat : Int))) ∧ Below w.heap.size w w' := fun w R => by have := refRoot_any q.num.toNat w R.env (by rw [Int.toNat_of_nonneg h]; exact hq.1); rwa [Int.toNat_of_nonneg h] at this
  have c4 : ∀ w, EnvR w → Calls Tryz.prog 113 #[.string (itoaB (q.den : Int))] w fun e w' => e = .returned (.string (itoaB (rootN q.den : Int))) ∧ Below w.heap.size w w' := fun w R => refRoot_any q.den w R.env hq.2
  have c5 : ∀ w, EnvR w → Calls Tryz.prog 99 #[.string (itoaB (rootN q.num.toNat : Int)), .string (itoaB (rootN q.num.toNat : Int))] w fun e w' => e = .returned (.string (itoaB q.num)) ∧ Below w.heap.size w w' := fun w R => by have := refMul_any (rootN q.num.toNat : Int) (rootN q.num.toNat : Int) w R.env (by omega) (by omega); rwa [ha] at this
  have c6 : ∀ w, EnvR w → Calls Tryz.prog 99 #[.string (itoaB (rootN q.den : Int)), .string (itoaB (rootN q.den : Int))] w fun e w' => e = .returned (.string (itoaB ((rootN q.den : Int) * (rootN q.den : Int)))) ∧ Below w.heap.size w w' := fun w R => refMul_any _ _ w R.env (by omega) (by omega)
  have hs : 0 ≤ q.num.sign := Int.sign_nonneg_iff.2 h
  have e0 : ((itoaB ((rootN q.den : Int) * (rootN q.den : Int))).toList == (itoaB (q.den : Int)).toList) = false := by rw [itoaB_eq]; exact decide_eq_false hb'
  obtain ⟨v, ev⟩ : ∃ v, itoaB ((rootN q.den : Int) * (rootN q.den : Int)) = v := ⟨_, rfl⟩
  try simp only [ev] at c1 c2 c3 c4 c5 c6 hs e0 ⊢
  obtain ⟨a, ea⟩ : ∃ v, itoaB (rootN q.num.toNat : Int) = v := ⟨_, rfl⟩
  try simp only [ea] at c1 c2 c3 c4 c5 c6 hs e0 ⊢
  obtain ⟨b, eb⟩ : ∃ v, itoaB (rootN q.den : Int) = v := ⟨_, rfl⟩
  try simp only [eb] at c1 c2 c3 c4 c5 c6 hs e0 ⊢
  obtain ⟨sg, esg⟩ : ∃ v, q.num.sign = v := ⟨_, rfl⟩
  try simp only [esg] at c1 c2 c3 c4 c5 c6 hs e0 ⊢
  obtain ⟨n, en⟩ : ∃ v, itoaB q.num = v := ⟨_, rfl⟩
  try simp only [en] at c1 c2 c3 c4 c5 c6 hs e0 ⊢
  obtain ⟨d, ed⟩ : ∃ v, itoaB (q.den : Int) = v := ⟨_, rfl⟩
  try simp only [ed] at c1 c2 c3 c4 c5 c6 hs e0 ⊢
  obtain ⟨s, es⟩ : ∃ v, ratB q = v := ⟨_, rfl⟩
  try simp only [es] at c1 c2 c3 c4 c5 c6 hs e0 ⊢
  have C1 := Lib.hid c1
  have C2 := Lib.hid c2
  have C3 := Lib.hid c3
  have C4 := Lib.hid c4
  have C5 := Lib.hid c5
  have C6 := Lib.hid c6
  clear c1 c2 c3 c4 c5 c6 ev ea eb esg en ed es hq ha hb' da db
  have hb := Below.refl w.heap.size w
  go_enter Tryz.func59, Tryz.ntmps59
  go_wp2_with (first | (go_at_call 16; ((with_reducible refine (chain hb (C1.out _ (R.below hb))).mono ?_); clear hb; rintro e w1 ⟨rfl, hb⟩)) | (go_at_call 79; ((with_reducible refine (chain hb (C2.out _ (R.below hb))).mono ?_); clear hb; rintro e w1 ⟨rfl, hb⟩)) | (go_at_call 113; first | ((with_reducible refine (chain hb (C3.out _ (R.below hb))).mono ?_); clear hb; rintro e w1 ⟨rfl, hb⟩) | ((with_reducible refine (chain hb (C4.out _ (R.below hb))).mono ?_); clear hb; rintro e w1 ⟨rfl, hb⟩)) | (go_at_call 99; first | ((with_reducible refine (chain hb (C5.out _ (R.below hb))).mono ?_); clear hb; rintro e w1 ⟨rfl, hb⟩) | ((with_reducible refine (chain hb (C6.out _ (R.below hb))).mono ?_); clear hb; rintro e w1 ⟨rfl, hb⟩)))
  go_ret2
  exact ⟨rfl, hb⟩
set_option maxRecDepth 100000 in
set_option maxHeartbeats 1000000 in
theorem refRRoot_yes (q : Rat) (hq : RL q 200) (h : 0 ≤ q.num) (ha : (rootN q.num.toNat : Int) * (rootN q.num.toNat : Int) = q.num) (hb' : (rootN q.den : Int) * (rootN q.den : Int) = (q.den : Int)) (w : World) (R : EnvR w) :
    Calls Tryz.prog 59 #[.string (ratB q)] w fun e w' => e = .returned (.tuple #[.string (ratB (rootQ q)), .bool true]) ∧ Below w.heap.size w w' := by
  have da : dlen (rootN q.num.toNat : Int) ≤ 200 := dlen_nat_le _ q.num _ (by decide) (Nat.le_trans (rootN_le _) (by omega)) hq.1
  have db : dlen (rootN q.den : Int) ≤ 200 := dlen_nat_le _ (q.den : Int) _ (by decide) (rootN_le _) hq.2
  have c1 : ∀ w, EnvR w → Calls Tryz.prog 16 #[.string (ratB q)] w fun e w' => e = .returned (.tuple #[.string (itoaB q.num), .string (itoaB (q.den : Int))]) ∧ Below w.heap.size w w' := fun w R => refParts_any q w R (hq.mono (by decide))
  have c2 : ∀ w, EnvR w → Calls Tryz.prog 79 #[.string (itoaB q.num)] w fun e w' => e = .returned (.int .i64 q.num.sign) ∧ Below w.heap.size w w' := fun w R => refSign_any q.num w
  have c3 : ∀ w, EnvR w → Calls Tryz.prog 113 #[.string (itoaB q.num)] w fun e w' => e = .returned (.string (itoaB (rootN q.num.toNat : Int))) ∧ Below w.heap.size w w' := fun w R => by have := refRoot_any q.num.toNat w R.env (by rw [Int.toNat_of_nonneg h]; exact hq.1); rwa [Int.toNat_of_nonneg h] at this
  have c4 : ∀ w, EnvR w → Calls Tryz.prog 113 #[.string (itoaB (q.den : Int))] w fun e w' => e = .returned (.string (itoaB (rootN q.den : Int))) ∧ Below w.heap.size w w' := fun w R => refRoot_any q.den w R.env hq.2
  have c5 : ∀ w, EnvR w → Calls Tryz.prog 99 #[.string (itoaB (rootN q.num.toNat : Int)), .string (itoaB (rootN q.num.toNat : Int))] w fun e w' => e = .returned (.string (itoaB q.num)) ∧ Below w.heap.size w w' := fun w R => by have := refMul_any (rootN q.num.toNat : Int) (rootN q.num.toNat : Int) w R.env (by omega) (by omega); rwa [ha] at this
  have c6 : ∀ w, EnvR w → Calls Tryz.prog 99 #[.string (itoaB (rootN q.den : Int)), .string (itoaB (rootN q.den : Int))] w fun e w' => e = .returned (.string (itoaB (q.den : Int))) ∧ Below w.heap.size w w' := fun w R => by have := refMul_any (rootN q.den : Int) (rootN q.den : Int) w R.env (by omega) (by omega); rwa [hb'] at this
  have c7 : ∀ w, EnvR w → Calls Tryz.prog 26 #[.string (itoaB (rootN q.num.toNat : Int)), .string (itoaB (rootN q.den : Int))] w fun e w' => e = .returned (.string (ratB (rootQ q))) ∧ Below w.heap.size w w' := fun w R => refFrac_any _ _ w R (by omega) (by omega) (fun e => by rw [e] at hb'; have := q.den_pos; omega)
  have hs : 0 ≤ q.num.sign := Int.sign_nonneg_iff.2 h
  obtain ⟨r, er⟩ : ∃ v, ratB (rootQ q) = v := ⟨_, rfl⟩
  try simp only [er] at c1 c2 c3 c4 c5 c6 c7 hs ⊢
  obtain ⟨a, ea⟩ : ∃ v, itoaB (rootN q.num.toNat : Int) = v := ⟨_, rfl⟩
  try simp only [ea] at c1 c2 c3 c4 c5 c6 c7 hs ⊢
  obtain ⟨b, eb⟩ : ∃ v, itoaB (rootN q.den : Int) = v := ⟨_, rfl⟩
  try simp only [eb] at c1 c2 c3 c4 c5 c6 c7 hs ⊢
  obtain ⟨sg, esg⟩ : ∃ v, q.num.sign = v := ⟨_, rfl⟩
  try simp only [esg] at c1 c2 c3 c4 c5 c6 c7 hs ⊢
  obtain ⟨n, en⟩ : ∃ v, itoaB q.num = v := ⟨_, rfl⟩
  try simp only [en] at c1 c2 c3 c4 c5 c6 c7 hs ⊢
  obtain ⟨d, ed⟩ : ∃ v, itoaB (q.den : Int) = v := ⟨_, rfl⟩
  try simp only [ed] at c1 c2 c3 c4 c5 c6 c7 hs ⊢
  obtain ⟨s, es⟩ : ∃ v, ratB q = v := ⟨_, rfl⟩
  try simp only [es] at c1 c2 c3 c4 c5 c6 c7 hs ⊢
  have C1 := Lib.hid c1
  have C2 := Lib.hid c2
  have C3 := Lib.hid c3
  have C4 := Lib.hid c4
  have C5 := Lib.hid c5
  have C6 := Lib.hid c6
  have C7 := Lib.hid c7
  clear c1 c2 c3 c4 c5 c6 c7 er ea eb esg en ed es hq ha hb' da db
  have hb := Below.refl w.heap.size w
  go_enter Tryz.func59, Tryz.ntmps59
  go_wp2_with (first | (go_at_call 16; ((with_reducible refine (chain hb (C1.out _ (R.below hb))).mono ?_); clear hb; rintro e w1 ⟨rfl, hb⟩)) | (go_at_call 79; ((with_reducible refine (chain hb (C2.out _ (R.below hb))).mono ?_); clear hb; rintro e w1 ⟨rfl, hb⟩)) | (go_at_call 113; first | ((with_reducible refine (chain hb (C3.out _ (R.below hb))).mono ?_); clear hb; rintro e w1 ⟨rfl, hb⟩) | ((with_reducible refine (chain hb (C4.out _ (R.below hb))).mono ?_); clear hb; rintro e w1 ⟨rfl, hb⟩)) | (go_at_call 99; first | ((with_reducible refine (chain hb (C5.out _ (R.below hb))).mono ?_); clear hb; rintro e w1 ⟨rfl, hb⟩) | ((with_reducible refine (chain hb (C6.out _ (R.below hb))).mono ?_); clear hb; rintro e w1 ⟨rfl, hb⟩)) | (go_at_call 26; ((with_reducible refine (chain hb (C7.out _ (R.below hb))).mono ?_); clear hb; rintro e w1 ⟨rfl, hb⟩)))
  go_ret2
  exact ⟨rfl, hb⟩
theorem refRRoot_any (q : Rat) (w : World) (R : EnvR w) (hq : RL q 200) :
    Calls Tryz.prog 59 #[.string (ratB q)] w fun e w' => e = .returned (.tuple #[.string (if sqB q.num && sqB q.den then ratB (rootQ q) else ⟨#[]⟩), .bool (sqB q.num && sqB q.den)]) ∧ Below w.heap.size w w' := by
  by_cases h : 0 ≤ q.num
  · have key : ∀ m : Nat, ((rootN m : Int) * (rootN m : Int) = (m : Int)) ↔ rootN m * rootN m = m := fun m => by
      rw [← Int.natCast_mul]; exact ⟨fun e => Int.ofNat.inj e, fun e => by rw [e]⟩
    by_cases ha : (rootN q.num.toNat : Int) * (rootN q.num.toNat : Int) = q.num
    · have sa : sqB q.num = true := by
        unfold sqB; rw [decide_eq_true h, decide_eq_true ((key _).1 (by rw [ha, Int.toNat_of_nonneg h]))]; rfl
      by_cases hb : (rootN q.den : Int) * (rootN q.den : Int) = (q.den : Int)
      · have sb : sqB (q.den : Int) = true := by
          unfold sqB; rw [Int.toNat_natCast, decide_eq_true (by omega : 0 ≤ (q.den : Int)), decide_eq_true ((key _).1 hb)]; rfl
        rw [sa, sb]; exact refRRoot_yes q hq h ha hb w R
      · have sb : sqB (q.den : Int) = false := by
          unfold sqB; rw [Int.toNat_natCast, decide_eq_false (mt (key _).2 hb), Bool.and_false]
        rw [sa, sb]; exact refRRoot_bot q hq h ha hb w R
    · have sa : sqB q.num = false := by
        have hc : ¬ rootN q.num.toNat * rootN q.num.toNat = q.num.toNat := fun e => ha (by have := (key _).2 e; rwa [Int.toNat_of_nonneg h] at this)
        unfold sqB; rw [decide_eq_false hc, Bool.and_false]
      rw [sa]; exact refRRoot_top q hq h ha w R
  · have sa : sqB q.num = false := by
      unfold sqB; rw [decide_eq_false h, Bool.false_and]
    rw [sa]; exact refRRoot_neg q hq (by omega) w R
theorem rootN_sq (n : Nat) : rootN (n * n) = n := rootN_eq ⟨Nat.le_refl _, Nat.mul_self_lt_mul_self (Nat.lt_succ_self n)⟩
theorem sq_parts (q : Rat) : (q * q).num = q.num * q.num ∧ ((q * q).den : Int) = (q.den : Int) * (q.den : Int) := by
  have h := mul_parts q q
  have hc : Nat.gcd q.num.natAbs q.den = 1 := q.reduced
  rw [hc] at h
  exact ⟨by simpa using h.1, by rw [h.2]; simp⟩
theorem sq_root (q : Rat) : sqB (q * q).num = true ∧ sqB ((q * q).den : Int) = true ∧ rootQ (q * q) = q.abs := by
  obtain ⟨h1, h2⟩ := sq_parts q
  have e1 : (q * q).num.toNat = q.num.natAbs * q.num.natAbs := by rw [h1, ← Int.natAbs_mul_self, Int.toNat_natCast]
  have e2 : (q * q).den = q.den * q.den := by have := h2; rw [← Int.natCast_mul] at this; exact Int.ofNat.inj this
  refine ⟨?_, ?_, ?_⟩
  · unfold sqB
    rw [e1, rootN_sq, decide_eq_true rfl, Bool.and_true]
    exact decide_eq_true (by rw [h1, ← Int.natAbs_mul_self]; omega)
  · unfold sqB
    rw [Int.toNat_natCast, e2, rootN_sq, decide_eq_true rfl, Bool.and_true]
    exact decide_eq_true (by omega)
  · unfold rootQ
    rw [e1, e2, rootN_sq, rootN_sq]
    obtain ⟨a1, a2⟩ := abs_num q
    rw [← a1, ← a2]
    exact rat_mk q.abs
end Go.Proofs.YtgllflfifbacnaaGreatDoor.Kl
