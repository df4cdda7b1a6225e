/- Contracts: the reference's operations on fractions. -/
import Derived.Test.YtgllflfifbacnaaGreatDoorKlRatB
namespace Go.Proofs.YtgllflfifbacnaaGreatDoor.Kl
open Go Go.RowKit

theorem mul_bound (a b : Int) (h0 : -1000000000 < a) (h1 : a < 1000000000) (h2 : -1000000000 < b) (h3 : b < 1000000000) : -1000000000000000000 < a * b ∧ a * b < 1000000000000000000 := by
  have h : a.natAbs * b.natAbs < 1000000000 * 1000000000 := Nat.mul_lt_mul'' (by omega) (by omega)
  rw [← Int.natAbs_mul] at h
  omega
theorem half_text : ratB (Rat.divInt 1 2) = ⟨#[49, 47, 50]⟩ := by decide +kernel
theorem RL_half : RL (Rat.divInt 1 2) 1 := by unfold RL; decide +kernel
theorem RL_neg {q : Rat} {K : Nat} (h : RL q K) : RL (-q) K := ⟨by show dlen (-q.num) ≤ K; rw [dlen_neg]; exact h.1, h.2⟩
theorem RL_mul {p q : Rat} {K M : Nat} (hK : 0 < K) (hp : RL p K) (hq : RL q M) : RL (p * q) (K + M) := by
  rw [← mul_mk]
  have := Nat.mul_pos p.den_pos q.den_pos
  exact RL_mk _ _ _ (by omega) (by omega) (dlen_mul _ _ _ _ (by omega) hp.1 hq.1) (by rw [Int.natCast_mul]; exact dlen_mul _ _ _ _ (by omega) hp.2 hq.2)
theorem RL_add {p q : Rat} {K M : Nat} (hK : 0 < K) (hp : RL p K) (hq : RL q M) : RL (p + q) (K + M + 1) := by
  rw [← add_mk]
  have := Nat.mul_pos p.den_pos q.den_pos
  refine RL_mk _ _ _ (by omega) (by omega) (dlen_add _ _ _ (by omega) (dlen_mul _ _ _ _ (by omega) hp.1 hq.2) ?_) (by rw [Int.natCast_mul]; exact Nat.le_trans (dlen_mul _ _ _ _ (by omega) hp.2 hq.2) (by omega))
  rw [Nat.add_comm]
  exact dlen_mul _ _ _ _ (by omega) hq.1 hp.2
set_option maxRecDepth 100000 in
set_option maxHeartbeats 1000000 in
theorem refAdd_ss (p q : Rat) (hp : (ratB p).size ≤ 9) (hq : (ratB q).size ≤ 9) (w : World) (R : EnvR w) :
    Calls Tryz.prog 41 #[.string (ratB p), .string (ratB q)] w fun e w' => e = .returned (.string (ratB (Rat.divInt (p.num * (q.den : Int) + q.num * (p.den : Int)) ((p.den : Int) * (q.den : Int))))) ∧ Below w.heap.size w w' := by
  obtain ⟨bp1, bp2⟩ := short_parts p hp
  obtain ⟨bq1, bq2⟩ := short_parts q hq
  have k1 := mul_bound p.num (q.den : Int) (by omega) (by omega) (by omega) (by omega)
  have k2 := mul_bound q.num (p.den : Int) (by omega) (by omega) (by omega) (by omega)
  have k3 := mul_bound (p.den : Int) (q.den : Int) (by omega) (by omega) (by omega) (by omega)
  have k4 : 0 < ((p.den : Int) * (q.den : Int)) := Int.mul_pos (by omega) (by omega)
  have c1 : ∀ w, EnvR w → Calls Tryz.prog 97 #[.string (ratB p)] w fun e w' => e = .returned (.tuple #[.int .i64 p.num, .int .i64 p.den, .bool true]) ∧ Below w.heap.size w w' := fun w R => refBrief_short p hp w R
  have c2 : ∀ w, EnvR w → Calls Tryz.prog 97 #[.string (ratB q)] w fun e w' => e = .returned (.tuple #[.int .i64 q.num, .int .i64 q.den, .bool true]) ∧ Below w.heap.size w w' := fun w R => refBrief_short q hq w R
  have c3 : ∀ w, EnvR w → Calls Tryz.prog 98 #[.int .i64 (p.num * (q.den : Int) + q.num * (p.den : Int)), .int .i64 ((p.den : Int) * (q.den : Int))] w fun e w' => e = .returned (.string (ratB (Rat.divInt (p.num * (q.den : Int) + q.num * (p.den : Int)) ((p.den : Int) * (q.den : Int))))) ∧ Below w.heap.size w w' := fun w R => refLowest_any _ _ (by omega) (by omega) (by omega) (by omega) w R
  have w1 : IntKind.i64.wrap (p.num * (q.den : Int)) = p.num * (q.den : Int) := IntWalk.i64_in _ (by have := k1; omega)
  have w2 : IntKind.i64.wrap (q.num * (p.den : Int)) = q.num * (p.den : Int) := IntWalk.i64_in _ (by have := k2; omega)
  have w3 : IntKind.i64.wrap (p.num * (q.den : Int) + q.num * (p.den : Int)) = p.num * (q.den : Int) + q.num * (p.den : Int) := IntWalk.i64_in _ (by have := k1; have := k2; omega)
  have w4 : IntKind.i64.wrap ((p.den : Int) * (q.den : Int)) = ((p.den : Int) * (q.den : Int)) := IntWalk.i64_in _ (by have := k3; omega)
  obtain ⟨r, er⟩ : ∃ v, ratB (Rat.divInt (p.num * (q.den : Int) + q.num * (p.den : Int)) ((p.den : Int) * (q.den : Int))) = v := ⟨_, rfl⟩
  try simp only [er] at c1 c2 c3 w1 w2 w3 w4 ⊢
  obtain ⟨n, en⟩ : ∃ v, p.num = v := ⟨_, rfl⟩
  try simp only [en] at c1 c2 c3 w1 w2 w3 w4 ⊢
  obtain ⟨d, ed⟩ : ∃ v, (p.den : Int) = v := ⟨_, rfl⟩
  try simp only [ed] at c1 c2 c3 w1 w2 w3 w4 ⊢
  obtain ⟨m, em⟩ : ∃ v, q.num = v := ⟨_, rfl⟩
  try simp only [em] at c1 c2 c3 w1 w2 w3 w4 ⊢
  obtain ⟨e, ee⟩ : ∃ v, (q.den : Int) = v := ⟨_, rfl⟩
  try simp only [ee] at c1 c2 c3 w1 w2 w3 w4 ⊢
  obtain ⟨a, ea⟩ : ∃ v, ratB p = v := ⟨_, rfl⟩
  try simp only [ea] at c1 c2 c3 w1 w2 w3 w4 ⊢
  obtain ⟨b, eb⟩ : ∃ v, ratB q = v := ⟨_, rfl⟩
  try simp only [eb] at c1 c2 c3 w1 w2 w3 w4 ⊢
  have C1 := Lib.hid c1
  have C2 := Lib.hid c2
  have C3 := Lib.hid c3
  clear c1 c2 c3 er en ed em ee ea eb bp1 bp2 bq1 bq2 hp hq k1 k2 k3 k4
  have hb := Below.refl w.heap.size w
  go_enter Tryz.func41, Tryz.ntmps41
  go_wp2_with (first | (go_at_call 97; first | ((with_reducible refine (chain hb (C1.out _ (R.below hb))).mono ?_); clear hb; rintro e w1 ⟨rfl, hb⟩) | ((with_reducible refine (chain hb (C2.out _ (R.below hb))).mono ?_); clear hb; rintro e w1 ⟨rfl, hb⟩)) | (go_at_call 98; ((with_reducible refine (chain hb (C3.out _ (R.below hb))).mono ?_); clear hb; rintro e w1 ⟨rfl, hb⟩)))
  go_ret
  exact ⟨rfl, hb⟩
set_option maxRecDepth 100000 in
set_option maxHeartbeats 1000000 in
theorem refAdd_l (p q : Rat) (hlp : RL p 400) (hlq : RL q 400) (hp : 9 < (ratB p).size) (w : World) (R : EnvR w) :
    Calls Tryz.prog 41 #[.string (ratB p), .string (ratB q)] w fun e w' => e = .returned (.string (ratB (Rat.divInt (p.num * (q.den : Int) + q.num * (p.den : Int)) ((p.den : Int) * (q.den : Int))))) ∧ Below w.heap.size w w' := by
  have g1 : dlen (p.num * (q.den : Int)) ≤ 800 := dlen_mul _ _ 400 400 (by decide) hlp.1 hlq.2
  have g2 : dlen (q.num * (p.den : Int)) ≤ 800 := dlen_mul _ _ 400 400 (by decide) hlq.1 hlp.2
  have g4 : dlen (p.num * (q.den : Int) + q.num * (p.den : Int)) ≤ 801 := dlen_add _ _ 800 (by decide) g1 g2
  have g3 : dlen ((p.den : Int) * (q.den : Int)) ≤ 800 := dlen_mul _ _ 400 400 (by decide) hlp.2 hlq.2
  have k4 : 0 < ((p.den : Int) * (q.den : Int)) := Int.mul_pos (by have := p.den_pos; omega) (by have := q.den_pos; omega)
  have c1 : ∀ w, EnvR w → Calls Tryz.prog 97 #[.string (ratB p)] w fun e w' => e = .returned (.tuple #[.int .i64 0, .int .i64 0, .bool false]) ∧ Below w.heap.size w w' := fun w R => refBrief_long _ hp w R
  have c2 : ∀ w, EnvR w → Calls Tryz.prog 16 #[.string (ratB p)] w fun e w' => e = .returned (.tuple #[.string (itoaB p.num), .string (itoaB p.den)]) ∧ Below w.heap.size w w' := fun w R => refParts_any p w R (hlp.mono (by decide))
  have c3 : ∀ w, EnvR w → Calls Tryz.prog 16 #[.string (ratB q)] w fun e w' => e = .returned (.tuple #[.string (itoaB q.num), .string (itoaB q.den)]) ∧ Below w.heap.size w w' := fun w R => refParts_any q w R (hlq.mono (by decide))
  have c4 : ∀ w, EnvR w → Calls Tryz.prog 99 #[.string (itoaB p.num), .string (itoaB (q.den : Int))] w fun e w' => e = .returned (.string (itoaB (p.num * (q.den : Int)))) ∧ Below w.heap.size w w' := fun w R => refMul_any _ _ w R.env (Nat.le_trans hlp.1 (by decide)) (Nat.le_trans hlq.2 (by decide))
  have c5 : ∀ w, EnvR w → Calls Tryz.prog 99 #[.string (itoaB q.num), .string (itoaB (p.den : Int))] w fun e w' => e = .returned (.string (itoaB (q.num * (p.den : Int)))) ∧ Below w.heap.size w w' := fun w R => refMul_any _ _ w R.env (Nat.le_trans hlq.1 (by decide)) (Nat.le_trans hlp.2 (by decide))
  have c6 : ∀ w, EnvR w → Calls Tryz.prog 104 #[.string (itoaB (p.num * (q.den : Int))), .string (itoaB (q.num * (p.den : Int)))] w fun e w' => e = .returned (.string (itoaB (p.num * (q.den : Int) + q.num * (p.den : Int)))) ∧ Below w.heap.size w w' := fun w R => refAdd_any _ _ w R.env (Nat.le_trans g1 (by decide)) (Nat.le_trans g2 (by decide))
  have c7 : ∀ w, EnvR w → Calls Tryz.prog 99 #[.string (itoaB (p.den : Int)), .string (itoaB (q.den : Int))] w fun e w' => e = .returned (.string (itoaB ((p.den : Int) * (q.den : Int)))) ∧ Below w.heap.size w w' := fun w R => refMul_any _ _ w R.env (Nat.le_trans hlp.2 (by decide)) (Nat.le_trans hlq.2 (by decide))
  have c8 : ∀ w, EnvR w → Calls Tryz.prog 26 #[.string (itoaB (p.num * (q.den : Int) + q.num * (p.den : Int))), .string (itoaB ((p.den : Int) * (q.den : Int)))] w fun e w' => e = .returned (.string (ratB (Rat.divInt (p.num * (q.den : Int) + q.num * (p.den : Int)) ((p.den : Int) * (q.den : Int))))) ∧ Below w.heap.size w w' := fun w R => refFrac_any _ _ w R (Nat.le_trans g4 (by decide)) (Nat.le_trans g3 (by decide)) (by omega)
  obtain ⟨r, er⟩ : ∃ v, ratB (Rat.divInt (p.num * (q.den : Int) + q.num * (p.den : Int)) ((p.den : Int) * (q.den : Int))) = v := ⟨_, rfl⟩
  try simp only [er] at c1 c2 c3 c4 c5 c6 c7 c8 ⊢
  obtain ⟨x, ex⟩ : ∃ v, itoaB (p.num * (q.den : Int) + q.num * (p.den : Int)) = v := ⟨_, rfl⟩
  try simp only [ex] at c1 c2 c3 c4 c5 c6 c7 c8 ⊢
  obtain ⟨y, ey⟩ : ∃ v, itoaB ((p.den : Int) * (q.den : Int)) = v := ⟨_, rfl⟩
  try simp only [ey] at c1 c2 c3 c4 c5 c6 c7 c8 ⊢
  obtain ⟨u, eu⟩ : ∃ v, itoaB (p.num * (q.den : Int)) = v := ⟨_, rfl⟩
  try simp only [eu] at c1 c2 c3 c4 c5 c6 c7 c8 ⊢
  obtain ⟨v, ev⟩ : ∃ v, itoaB (q.num * (p.den : Int)) = v := ⟨_, rfl⟩
  try simp only [ev] at c1 c2 c3 c4 c5 c6 c7 c8 ⊢
  obtain ⟨n, en⟩ : ∃ v, itoaB p.num = v := ⟨_, rfl⟩
  try simp only [en] at c1 c2 c3 c4 c5 c6 c7 c8 ⊢
  obtain ⟨d, ed⟩ : ∃ v, itoaB (p.den : Int) = v := ⟨_, rfl⟩
  try simp only [ed] at c1 c2 c3 c4 c5 c6 c7 c8 ⊢
  obtain ⟨m, em⟩ : ∃ v, itoaB q.num = v := ⟨_, rfl⟩
  try simp only [em] at c1 c2 c3 c4 c5 c6 c7 c8 ⊢
  obtain ⟨e, ee⟩ : ∃ v, itoaB (q.den : Int) = v := ⟨_, rfl⟩
  try simp only [ee] at c1 c2 c3 c4 c5 c6 c7 c8 ⊢
  obtain ⟨a, ea⟩ : ∃ v, ratB p = v := ⟨_, rfl⟩
  try simp only [ea] at c1 c2 c3 c4 c5 c6 c7 c8 ⊢
  obtain ⟨b, eb⟩ : ∃ v, ratB q = v := ⟨_, rfl⟩
  try simp only [eb] at c1 c2 c3 c4 c5 c6 c7 c8 ⊢
  have C1 := Lib.hid c1
  have C2 := Lib.hid c2
  have C3 := Lib.hid c3
  have C4 := Lib.hid c4
  have C5 := Lib.hid c5
  have C6 := Lib.hid c6
  have C7 := Lib.hid c7
  have C8 := Lib.hid c8
  clear c1 c2 c3 c4 c5 c6 c7 c8 er ex ey eu ev en ed em ee ea eb g3 g4 k4 hlp hlq g1 g2 hp
  have hb := Below.refl w.heap.size w
  go_enter Tryz.func41, Tryz.ntmps41
  go_wp2_with (first | (go_at_call 97; ((with_reducible refine (chain hb (C1.out _ (R.below hb))).mono ?_); clear hb; rintro e w1 ⟨rfl, hb⟩)) | (go_at_call 16; first | ((with_reducible refine (chain hb (C2.out _ (R.below hb))).mono ?_); clear hb; rintro e w1 ⟨rfl, hb⟩) | ((with_reducible refine (chain hb (C3.out _ (R.below hb))).mono ?_); clear hb; rintro e w1 ⟨rfl, hb⟩)) | (go_at_call 99; first | ((with_reducible refine (chain hb (C4.out _ (R.below hb))).mono ?_); clear hb; rintro e w1 ⟨rfl, hb⟩) | ((with_reducible refine (chain hb (C5.out _ (R.below hb))).mono ?_); clear hb; rintro e w1 ⟨rfl, hb⟩) | ((with_reducible refine (chain hb (C7.out _ (R.below hb))).mono ?_); clear hb; rintro e w1 ⟨rfl, hb⟩)) | (go_at_call 104; ((with_reducible refine (chain hb (C6.out _ (R.below hb))).mono ?_); clear hb; rintro e w1 ⟨rfl, hb⟩)) | (go_at_call 26; ((with_reducible refine (chain hb (C8.out _ (R.below hb))).mono ?_); clear hb; rintro e w1 ⟨rfl, hb⟩)))
  go_ret
  exact ⟨rfl, hb⟩
set_option maxRecDepth 100000 in
set_option maxHeartbeats 1000000 in
theorem refAdd_sl (p q : Rat) (hlp : RL p 400) (hlq : RL q 400) (hp : (ratB p).size ≤ 9) (hq : 9 < (ratB q).size) (w : World) (R : EnvR w) :
    Calls Tryz.prog 41 #[.string (ratB p), .string (ratB q)] w fun e w' => e = .returned (.string (ratB (Rat.divInt (p.num * (q.den : Int) + q.num * (p.den : Int)) ((p.den : Int) * (q.den : Int))))) ∧ Below w.heap.size w w' := by
  have g1 : dlen (p.num * (q.den : Int)) ≤ 800 := dlen_mul _ _ 400 400 (by decide) hlp.1 hlq.2
  have g2 : dlen (q.num * (p.den : Int)) ≤ 800 := dlen_mul _ _ 400 400 (by decide) hlq.1 hlp.2
  have g4 : dlen (p.num * (q.den : Int) + q.num * (p.den : Int)) ≤ 801 := dlen_add _ _ 800 (by decide) g1 g2
  have g3 : dlen ((p.den : Int) * (q.den : Int)) ≤ 800 := dlen_mul _ _ 400 400 (by decide) hlp.2 hlq.2
  have k4 : 0 < ((p.den : Int) * (q.den : Int)) := Int.mul_pos (by have := p.den_pos; omega) (by have := q.den_pos; omega)
  have c1 : ∀ w, EnvR w → Calls Tryz.prog 97 #[.string (ratB p)] w fun e w' => e = .returned (.tuple #[.int .i64 p.num, .int .i64 p.den, .bool true]) ∧ Below w.heap.size w w' := fun w R => refBrief_short p hp w R
  have c2 : ∀ w, EnvR w → Calls Tryz.prog 97 #[.string (ratB q)] w fun e w' => e = .returned (.tuple #[.int .i64 0, .int .i64 0, .bool false]) ∧ Below w.heap.size w w' := fun w R => refBrief_long _ hq w R
  have c3 : ∀ w, EnvR w → Calls Tryz.prog 16 #[.string (ratB p)] w fun e w' => e = .returned (.tuple #[.string (itoaB p.num), .string (itoaB p.den)]) ∧ Below w.heap.size w w' := fun w R => refParts_any p w R (hlp.mono (by decide))
  have c4 : ∀ w, EnvR w → Calls Tryz.prog 16 #[.string (ratB q)] w fun e w' => e = .returned (.tuple #[.string (itoaB q.num), .string (itoaB q.den)]) ∧ Below w.heap.size w w' := fun w R => refParts_any q w R (hlq.mono (by decide))
  have c5 : ∀ w, EnvR w → Calls Tryz.prog 99 #[.string (itoaB p.num), .string (itoaB (q.den : Int))] w fun e w' => e = .returned (.string (itoaB (p.num * (q.den : Int)))) ∧ Below w.heap.size w w' := fun w R => refMul_any _ _ w R.env (Nat.le_trans hlp.1 (by decide)) (Nat.le_trans hlq.2 (by decide))
  have c6 : ∀ w, EnvR w → Calls Tryz.prog 99 #[.string (itoaB q.num), .string (itoaB (p.den : Int))] w fun e w' => e = .returned (.string (itoaB (q.num * (p.den : Int)))) ∧ Below w.heap.size w w' := fun w R => refMul_any _ _ w R.env (Nat.le_trans hlq.1 (by decide)) (Nat.le_trans hlp.2 (by decide))
  have c7 : ∀ w, EnvR w → Calls Tryz.prog 104 #[.string (itoaB (p.num * (q.den : Int))), .string (itoaB (q.num * (p.den : Int)))] w fun e w' => e = .returned (.string (itoaB (p.num * (q.den : Int) + q.num * (p.den : Int)))) ∧ Below w.heap.size w w' := fun w R => refAdd_any _ _ w R.env (Nat.le_trans g1 (by decide)) (Nat.le_trans g2 (by decide))
  have c8 : ∀ w, EnvR w → Calls Tryz.prog 99 #[.string (itoaB (p.den : Int)), .string (itoaB (q.den : Int))] w fun e w' => e = .returned (.string (itoaB ((p.den : Int) * (q.den : Int)))) ∧ Below w.heap.size w w' := fun w R => refMul_any _ _ w R.env (Nat.le_trans hlp.2 (by decide)) (Nat.le_trans hlq.2 (by decide))
  have c9 : ∀ w, EnvR w → Calls Tryz.prog 26 #[.string (itoaB (p.num * (q.den : Int) + q.num * (p.den : Int))), .string (itoaB ((p.den : Int) * (q.den : Int)))] w fun e w' => e = .returned (.string (ratB (Rat.divInt (p.num * (q.den : Int) + q.num * (p.den : Int)) ((p.den : Int) * (q.den : Int))))) ∧ Below w.heap.size w w' := fun w R => refFrac_any _ _ w R (Nat.le_trans g4 (by decide)) (Nat.le_trans g3 (by decide)) (by omega)
  obtain ⟨r, er⟩ : ∃ v, ratB (Rat.divInt (p.num * (q.den : Int) + q.num * (p.den : Int)) ((p.den : Int) * (q.den : Int))) = v := ⟨_, rfl⟩
  try simp only [er] at c1 c2 c3 c4 c5 c6 c7 c8 c9 ⊢
  obtain ⟨x, ex⟩ : ∃ v, itoaB (p.num * (q.den : Int) + q.num * (p.den : Int)) = v := ⟨_, rfl⟩
  try simp only [ex] at c1 c2 c3 c4 c5 c6 c7 c8 c9 ⊢
  obtain ⟨y, ey⟩ : ∃ v, itoaB ((p.den : Int) * (q.den : Int)) = v := ⟨_, rfl⟩
  try simp only [ey] at c1 c2 c3 c4 c5 c6 c7 c8 c9 ⊢
  obtain ⟨u, eu⟩ : ∃ v, itoaB (p.num * (q.den : Int)) = v := ⟨_, rfl⟩
  try simp only [eu] at c1 c2 c3 c4 c5 c6 c7 c8 c9 ⊢
  obtain ⟨v, ev⟩ : ∃ v, itoaB (q.num * (p.den : Int)) = v := ⟨_, rfl⟩
  try simp only [ev] at c1 c2 c3 c4 c5 c6 c7 c8 c9 ⊢
  obtain ⟨n, en⟩ : ∃ v, itoaB p.num = v := ⟨_, rfl⟩
  try simp only [en] at c1 c2 c3 c4 c5 c6 c7 c8 c9 ⊢
  obtain ⟨d, ed⟩ : ∃ v, itoaB (p.den : Int) = v := ⟨_, rfl⟩
  try simp only [ed] at c1 c2 c3 c4 c5 c6 c7 c8 c9 ⊢
  obtain ⟨m, em⟩ : ∃ v, itoaB q.num = v := ⟨_, rfl⟩
  try simp only [em] at c1 c2 c3 c4 c5 c6 c7 c8 c9 ⊢
  obtain ⟨e, ee⟩ : ∃ v, itoaB (q.den : Int) = v := ⟨_, rfl⟩
  try simp only [ee] at c1 c2 c3 c4 c5 c6 c7 c8 c9 ⊢
  obtain ⟨a, ea⟩ : ∃ v, ratB p = v := ⟨_, rfl⟩
  try simp only [ea] at c1 c2 c3 c4 c5 c6 c7 c8 c9 ⊢
  obtain ⟨b, eb⟩ : ∃ v, ratB q = v := ⟨_, rfl⟩
  try simp only [eb] at c1 c2 c3 c4 c5 c6 c7 c8 c9 ⊢
  obtain ⟨n', en'⟩ : ∃ v, p.num = v := ⟨_, rfl⟩
  try simp only [en'] at c1 c2 c3 c4 c5 c6 c7 c8 c9 ⊢
  obtain ⟨d', ed'⟩ : ∃ v, (p.den : Int) = v := ⟨_, rfl⟩
  try simp only [ed'] at c1 c2 c3 c4 c5 c6 c7 c8 c9 ⊢
  have C1 := Lib.hid c1
  have C2 := Lib.hid c2
  have C3 := Lib.hid c3
  have C4 := Lib.hid c4
  have C5 := Lib.hid c5
  have C6 := Lib.hid c6
  have C7 := Lib.hid c7
  have C8 := Lib.hid c8
  have C9 := Lib.hid c9
  clear c1 c2 c3 c4 c5 c6 c7 c8 c9 er ex ey eu ev en ed em ee ea eb en' ed' g3 g4 k4 hlp hlq g1 g2 hp hq
  have hb := Below.refl w.heap.size w
  go_enter Tryz.func41, Tryz.ntmps41
  go_wp2_with (first | (go_at_call 97; first | ((with_reducible refine (chain hb (C1.out _ (R.below hb))).mono ?_); clear hb; rintro e w1 ⟨rfl, hb⟩) | ((with_reducible refine (chain hb (C2.out _ (R.below hb))).mono ?_); clear hb; rintro e w1 ⟨rfl, hb⟩)) | (go_at_call 16; first | ((with_reducible refine (chain hb (C3.out _ (R.below hb))).mono ?_); clear hb; rintro e w1 ⟨rfl, hb⟩) | ((with_reducible refine (chain hb (C4.out _ (R.below hb))).mono ?_); clear hb; rintro e w1 ⟨rfl, hb⟩)) | (go_at_call 99; first | ((with_reducible refine (chain hb (C5.out _ (R.below hb))).mono ?_); clear hb; rintro e w1 ⟨rfl, hb⟩) | ((with_reducible refine (chain hb (C6.out _ (R.below hb))).mono ?_); clear hb; rintro e w1 ⟨rfl, hb⟩) | ((with_reducible refine (chain hb (C8.out _ (R.below hb))).mono ?_); clear hb; rintro e w1 ⟨rfl, hb⟩)) | (go_at_call 104; ((with_reducible refine (chain hb (C7.out _ (R.below hb))).mono ?_); clear hb; rintro e w1 ⟨rfl, hb⟩)) | (go_at_call 26; ((with_reducible refine (chain hb (C9.out _ (R.below hb))).mono ?_); clear hb; rintro e w1 ⟨rfl, hb⟩)))
  go_ret
  exact ⟨rfl, hb⟩
theorem refRAdd_any (p q : Rat) (w : World) (R : EnvR w) (hlp : RL p 400) (hlq : RL q 400) :
    Calls Tryz.prog 41 #[.string (ratB p), .string (ratB q)] w fun e w' => e = .returned (.string (ratB (p + q))) ∧ Below w.heap.size w w' := by
  rw [← add_mk p q, Int.natCast_mul]
  by_cases hp : (ratB p).size ≤ 9
  · by_cases hq : (ratB q).size ≤ 9
    · exact refAdd_ss p q hp hq w R
    · exact refAdd_sl p q hlp hlq hp (by omega) w R
  · exact refAdd_l p q hlp hlq (by omega) w R
set_option maxRecDepth 100000 in
set_option maxHeartbeats 1000000 in
theorem refMul_ss (p q : Rat) (hp : (ratB p).size ≤ 9) (hq : (ratB q).size ≤ 9) (w : World) (R : EnvR w) :
    Calls Tryz.prog 34 #[.string (ratB p), .string (ratB q)] w fun e w' => e = .returned (.string (ratB (Rat.divInt (p.num * q.num) ((p.den : Int) * (q.den : Int))))) ∧ Below w.heap.size w w' := by
  obtain ⟨bp1, bp2⟩ := short_parts p hp
  obtain ⟨bq1, bq2⟩ := short_parts q hq
  have k1 := mul_bound p.num q.num (by omega) (by omega) (by omega) (by omega)
  have k3 := mul_bound (p.den : Int) (q.den : Int) (by omega) (by omega) (by omega) (by omega)
  have k4 : 0 < ((p.den : Int) * (q.den : Int)) := Int.mul_pos (by omega) (by omega)
  have c1 : ∀ w, EnvR w → Calls Tryz.prog 97 #[.string (ratB p)] w fun e w' => e = .returned (.tuple #[.int .i64 p.num, .int .i64 p.den, .bool true]) ∧ Below w.heap.size w w' := fun w R => refBrief_short p hp w R
  have c2 : ∀ w, EnvR w → Calls Tryz.prog 97 #[.string (ratB q)] w fun e w' => e = .returned (.tuple #[.int .i64 q.num, .int .i64 q.den, .bool true]) ∧ Below w.heap.size w w' := fun w R => refBrief_short q hq w R
  have c3 : ∀ w, EnvR w → Calls Tryz.prog 98 #[.int .i64 (p.num * q.num), .int .i64 ((p.den : Int) * (q.den : Int))] w fun e w' => e = .returned (.string (ratB (Rat.divInt (p.num * q.num) ((p.den : Int) * (q.den : Int))))) ∧ Below w.heap.size w w' := fun w R => refLowest_any _ _ (by omega) (by omega) (by omega) (by omega) w R
  have w1 : IntKind.i64.wrap (p.num * q.num) = p.num * q.num := IntWalk.i64_in _ (by have := k1; omega)
  have w4 : IntKind.i64.wrap ((p.den : Int) * (q.den : Int)) = ((p.den : Int) * (q.den : Int)) := IntWalk.i64_in _ (by have := k3; omega)
  obtain ⟨r, er⟩ : ∃ v, ratB (Rat.divInt (p.num * q.num) ((p.den : Int) * (q.den : Int))) = v := ⟨_, rfl⟩
  try simp only [er] at c1 c2 c3 w1 w4 ⊢
  obtain ⟨n, en⟩ : ∃ v, p.num = v := ⟨_, rfl⟩
  try simp only [en] at c1 c2 c3 w1 w4 ⊢
  obtain ⟨d, ed⟩ : ∃ v, (p.den : Int) = v := ⟨_, rfl⟩
  try simp only [ed] at c1 c2 c3 w1 w4 ⊢
  obtain ⟨m, em⟩ : ∃ v, q.num = v := ⟨_, rfl⟩
  try simp only [em] at c1 c2 c3 w1 w4 ⊢
  obtain ⟨e, ee⟩ : ∃ v, (q.den : Int) = v := ⟨_, rfl⟩
  try simp only [ee] at c1 c2 c3 w1 w4 ⊢
  obtain ⟨a, ea⟩ : ∃ v, ratB p = v := ⟨_, rfl⟩
  try simp only [ea] at c1 c2 c3 w1 w4 ⊢
  obtain ⟨b, eb⟩ : ∃ v, ratB q = v := ⟨_, rfl⟩
  try simp only [eb] at c1 c2 c3 w1 w4 ⊢
  have C1 := Lib.hid c1
  have C2 := Lib.hid c2
  have C3 := Lib.hid c3
  clear c1 c2 c3 er en ed em ee ea eb bp1 bp2 bq1 bq2 hp hq k1 k3 k4
  have hb := Below.refl w.heap.size w
  go_enter Tryz.func34, Tryz.ntmps34
  go_wp2_with (first | (go_at_call 97; first | ((with_reducible refine (chain hb (C1.out _ (R.below hb))).mono ?_); clear hb; rintro e w1 ⟨rfl, hb⟩) | ((with_reducible refine (chain hb (C2.out _ (R.below hb))).mono ?_); clear hb; rintro e w1 ⟨rfl, hb⟩)) | (go_at_call 98; ((with_reducible refine (chain hb (C3.out _ (R.below hb))).mono ?_); clear hb; rintro e w1 ⟨rfl, hb⟩)))
  go_ret
  exact ⟨rfl, hb⟩
set_option maxRecDepth 100000 in
set_option maxHeartbeats 1000000 in
theorem refMul_l (p q : Rat) (hlp : RL p 400) (hlq : RL q 400) (hp : 9 < (ratB p).size) (w : World) (R : EnvR w) :
    Calls Tryz.prog 34 #[.string (ratB p), .string (ratB q)] w fun e w' => e = .returned (.string (ratB (Rat.divInt (p.num * q.num) ((p.den : Int) * (q.den : Int))))) ∧ Below w.heap.size w w' := by
  have g4 : dlen (p.num * q.num) ≤ 800 := dlen_mul _ _ 400 400 (by decide) hlp.1 hlq.1
  have g3 : dlen ((p.den : Int) * (q.den : Int)) ≤ 800 := dlen_mul _ _ 400 400 (by decide) hlp.2 hlq.2
  have k4 : 0 < ((p.den : Int) * (q.den : Int)) := Int.mul_pos (by have := p.den_pos; omega) (by have := q.den_pos; omega)
  have c1 : ∀ w, EnvR w → Calls Tryz.prog 97 #[.string (ratB p)] w fun e w' => e = .returned (.tuple #[.int .i64 0, .int .i64 0, .bool false]) ∧ Below w.heap.size w w' := fun w R => refBrief_long _ hp w R
  have c2 : ∀ w, EnvR w → Calls Tryz.prog 16 #[.string (ratB p)] w fun e w' => e = .returned (.tuple #[.string (itoaB p.num), .string (itoaB p.den)]) ∧ Below w.heap.size w w' := fun w R => refParts_any p w R (hlp.mono (by decide))
  have c3 : ∀ w, EnvR w → Calls Tryz.prog 16 #[.string (ratB q)] w fun e w' => e = .returned (.tuple #[.string (itoaB q.num), .string (itoaB q.den)]) ∧ Below w.heap.size w w' := fun w R => refParts_any q w R (hlq.mono (by decide))
  have c4 : ∀ w, EnvR w → Calls Tryz.prog 99 #[.string (itoaB p.num), .string (itoaB q.num)] w fun e w' => e = .returned (.string (itoaB (p.num * q.num))) ∧ Below w.heap.size w w' := fun w R => refMul_any _ _ w R.env (Nat.le_trans hlp.1 (by decide)) (Nat.le_trans hlq.1 (by decide))
  have c5 : ∀ w, EnvR w → Calls Tryz.prog 99 #[.string (itoaB (p.den : Int)), .string (itoaB (q.den : Int))] w fun e w' => e = .returned (.string (itoaB ((p.den : Int) * (q.den : Int)))) ∧ Below w.heap.size w w' := fun w R => refMul_any _ _ w R.env (Nat.le_trans hlp.2 (by decide)) (Nat.le_trans hlq.2 (by decide))
  have c6 : ∀ w, EnvR w → Calls Tryz.prog 26 #[.string (itoaB (p.num * q.num)), .string (itoaB ((p.den : Int) * (q.den : Int)))] w fun e w' => e = .returned (.string (ratB (Rat.divInt (p.num * q.num) ((p.den : Int) * (q.den : Int))))) ∧ Below w.heap.size w w' := fun w R => refFrac_any _ _ w R (Nat.le_trans g4 (by decide)) (Nat.le_trans g3 (by decide)) (by omega)
  obtain ⟨r, er⟩ : ∃ v, ratB (Rat.divInt (p.num * q.num) ((p.den : Int) * (q.den : Int))) = v := ⟨_, rfl⟩
  try simp only [er] at c1 c2 c3 c4 c5 c6 ⊢
  obtain ⟨x, ex⟩ : ∃ v, itoaB (p.num * q.num) = v := ⟨_, rfl⟩
  try simp only [ex] at c1 c2 c3 c4 c5 c6 ⊢
  obtain ⟨y, ey⟩ : ∃ v, itoaB ((p.den : Int) * (q.den : Int)) = v := ⟨_, rfl⟩
  try simp only [ey] at c1 c2 c3 c4 c5 c6 ⊢
  obtain ⟨n, en⟩ : ∃ v, itoaB p.num = v := ⟨_, rfl⟩
  try simp only [en] at c1 c2 c3 c4 c5 c6 ⊢
  obtain ⟨d, ed⟩ : ∃ v, itoaB (p.den : Int) = v := ⟨_, rfl⟩
  try simp only [ed] at c1 c2 c3 c4 c5 c6 ⊢
  obtain ⟨m, em⟩ : ∃ v, itoaB q.num = v := ⟨_, rfl⟩
  try simp only [em] at c1 c2 c3 c4 c5 c6 ⊢
  obtain ⟨e, ee⟩ : ∃ v, itoaB (q.den : Int) = v := ⟨_, rfl⟩
  try simp only [ee] at c1 c2 c3 c4 c5 c6 ⊢
  obtain ⟨a, ea⟩ : ∃ v, ratB p = v := ⟨_, rfl⟩
  try simp only [ea] at c1 c2 c3 c4 c5 c6 ⊢
  obtain ⟨b, eb⟩ : ∃ v, ratB q = v := ⟨_, rfl⟩
  try simp only [eb] at c1 c2 c3 c4 c5 c6 ⊢
  have C1 := Lib.hid c1
  have C2 := Lib.hid c2
  have C3 := Lib.hid c3
  have C4 := Lib.hid c4
  have C5 := Lib.hid c5
  have C6 := Lib.hid c6
  clear c1 c2 c3 c4 c5 c6 er ex ey en ed em ee ea eb g3 g4 k4 hlp hlq hp
  have hb := Below.refl w.heap.size w
  go_enter Tryz.func34, Tryz.ntmps34
  go_wp2_with (first | (go_at_call 97; ((with_reducible refine (chain hb (C1.out _ (R.below hb))).mono ?_); clear hb; rintro e w1 ⟨rfl, hb⟩)) | (go_at_call 16; first | ((with_reducible refine (chain hb (C2.out _ (R.below hb))).mono ?_); clear hb; rintro e w1 ⟨rfl, hb⟩) | ((with_reducible refine (chain hb (C3.out _ (R.below hb))).mono ?_); clear hb; rintro e w1 ⟨rfl, hb⟩)) | (go_at_call 99; first | ((with_reducible refine (chain hb (C4.out _ (R.below hb))).mono ?_); clear hb; rintro e w1 ⟨rfl, hb⟩) | ((with_reducible refine (chain hb (C5.out _ (R.below hb))).mono ?_); clear hb; rintro e w1 ⟨rfl, hb⟩)) | (go_at_call 26; ((with_reducible refine (chain hb (C6.out _ (R.below hb))).mono ?_); clear hb; rintro e w1 ⟨rfl, hb⟩)))
  go_ret
  exact ⟨rfl, hb⟩
set_option maxRecDepth 100000 in
set_option maxHeartbeats 1000000 in
theorem refMul_sl (p q : Rat) (hlp : RL p 400) (hlq : RL q 400) (hp : (ratB p).size ≤ 9) (hq : 9 < (ratB q).size) (w : World) (R : EnvR w) :
    Calls Tryz.prog 34 #[.string (ratB p), .string (ratB q)] w fun e w' => e = .returned (.string (ratB (Rat.divInt (p.num * q.num) ((p.den : Int) * (q.den : Int))))) ∧ Below w.heap.size w w' := by
  have g4 : dlen (p.num * q.num) ≤ 800 := dlen_mul _ _ 400 400 (by decide) hlp.1 hlq.1
  have g3 : dlen ((p.den : Int) * (q.den : Int)) ≤ 800 := dlen_mul _ _ 400 400 (by decide) hlp.2 hlq.2
  have k4 : 0 < ((p.den : Int) * (q.den : Int)) := Int.mul_pos (by have := p.den_pos; omega) (by have := q.den_pos; omega)
  have c1 : ∀ w, EnvR w → Calls Tryz.prog 97 #[.string (ratB p)] w fun e w' => e = .returned (.tuple #[.int .i64 p.num, .int .i64 p.den, .bool true]) ∧ Below w.heap.size w w' := fun w R => refBrief_short p hp w R
  have c2 : ∀ w, EnvR w → Calls Tryz.prog 97 #[.string (ratB q)] w fun e w' => e = .returned (.tuple #[.int .i64 0, .int .i64 0, .bool false]) ∧ Below w.heap.size w w' := fun w R => refBrief_long _ hq w R
  have c3 : ∀ w, EnvR w → Calls Tryz.prog 16 #[.string (ratB p)] w fun e w' => e = .returned (.tuple #[.string (itoaB p.num), .string (itoaB p.den)]) ∧ Below w.heap.size w w' := fun w R => refParts_any p w R (hlp.mono (by decide))
  have c4 : ∀ w, EnvR w → Calls Tryz.prog 16 #[.string (ratB q)] w fun e w' => e = .returned (.tuple #[.string (itoaB q.num), .string (itoaB q.den)]) ∧ Below w.heap.size w w' := fun w R => refParts_any q w R (hlq.mono (by decide))
  have c5 : ∀ w, EnvR w → Calls Tryz.prog 99 #[.string (itoaB p.num), .string (itoaB q.num)] w fun e w' => e = .returned (.string (itoaB (p.num * q.num))) ∧ Below w.heap.size w w' := fun w R => refMul_any _ _ w R.env (Nat.le_trans hlp.1 (by decide)) (Nat.le_trans hlq.1 (by decide))
  have c6 : ∀ w, EnvR w → Calls Tryz.prog 99 #[.string (itoaB (p.den : Int)), .string (itoaB (q.den : Int))] w fun e w' => e = .returned (.string (itoaB ((p.den : Int) * (q.den : Int)))) ∧ Below w.heap.size w w' := fun w R => refMul_any _ _ w R.env (Nat.le_trans hlp.2 (by decide)) (Nat.le_trans hlq.2 (by decide))
  have c7 : ∀ w, EnvR w → Calls Tryz.prog 26 #[.string (itoaB (p.num * q.num)), .string (itoaB ((p.den : Int) * (q.den : Int)))] w fun e w' => e = .returned (.string (ratB (Rat.divInt (p.num * q.num) ((p.den : Int) * (q.den : Int))))) ∧ Below w.heap.size w w' := fun w R => refFrac_any _ _ w R (Nat.le_trans g4 (by decide)) (Nat.le_trans g3 (by decide)) (by omega)
  obtain ⟨r, er⟩ : ∃ v, ratB (Rat.divInt (p.num * q.num) ((p.den : Int) * (q.den : Int))) = v := ⟨_, rfl⟩
  try simp only [er] at c1 c2 c3 c4 c5 c6 c7 ⊢
  obtain ⟨x, ex⟩ : ∃ v, itoaB (p.num * q.num) = v := ⟨_, rfl⟩
  try simp only [ex] at c1 c2 c3 c4 c5 c6 c7 ⊢
  obtain ⟨y, ey⟩ : ∃ v, itoaB ((p.den : Int) * (q.den : Int)) = v := ⟨_, rfl⟩
  try simp only [ey] at c1 c2 c3 c4 c5 c6 c7 ⊢
  obtain ⟨n, en⟩ : ∃ v, itoaB p.num = v := ⟨_, rfl⟩
  try simp only [en] at c1 c2 c3 c4 c5 c6 c7 ⊢
  obtain ⟨d, ed⟩ : ∃ v, itoaB (p.den : Int) = v := ⟨_, rfl⟩
  try simp only [ed] at c1 c2 c3 c4 c5 c6 c7 ⊢
  obtain ⟨m, em⟩ : ∃ v, itoaB q.num = v := ⟨_, rfl⟩
  try simp only [em] at c1 c2 c3 c4 c5 c6 c7 ⊢
  obtain ⟨e, ee⟩ : ∃ v, itoaB (q.den : Int) = v := ⟨_, rfl⟩
  try simp only [ee] at c1 c2 c3 c4 c5 c6 c7 ⊢
  obtain ⟨a, ea⟩ : ∃ v, ratB p = v := ⟨_, rfl⟩
  try simp only [ea] at c1 c2 c3 c4 c5 c6 c7 ⊢
  obtain ⟨b, eb⟩ : ∃ v, ratB q = v := ⟨_, rfl⟩
  try simp only [eb] at c1 c2 c3 c4 c5 c6 c7 ⊢
  obtain ⟨n', en'⟩ : ∃ v, p.num = v := ⟨_, rfl⟩
  try simp only [en'] at c1 c2 c3 c4 c5 c6 c7 ⊢
  obtain ⟨d', ed'⟩ : ∃ v, (p.den : Int) = v := ⟨_, rfl⟩
  try simp only [ed'] at c1 c2 c3 c4 c5 c6 c7 ⊢
  have C1 := Lib.hid c1
  have C2 := Lib.hid c2
  have C3 := Lib.hid c3
  have C4 := Lib.hid c4
  have C5 := Lib.hid c5
  have C6 := Lib.hid c6
  have C7 := Lib.hid c7
  clear c1 c2 c3 c4 c5 c6 c7 er ex ey en ed em ee ea eb en' ed' g3 g4 k4 hlp hlq hp hq
  have hb := Below.refl w.heap.size w
  go_enter Tryz.func34, Tryz.ntmps34
  go_wp2_with (first | (go_at_call 97; first | ((with_reducible refine (chain hb (C1.out _ (R.below hb))).mono ?_); clear hb; rintro e w1 ⟨rfl, hb⟩) | ((with_reducible refine (chain hb (C2.out _ (R.below hb))).mono ?_); clear hb; rintro e w1 ⟨rfl, hb⟩)) | (go_at_call 16; first | ((with_reducible refine (chain hb (C3.out _ (R.below hb))).mono ?_); clear hb; rintro e w1 ⟨rfl, hb⟩) | ((with_reducible refine (chain hb (C4.out _ (R.below hb))).mono ?_); clear hb; rintro e w1 ⟨rfl, hb⟩)) | (go_at_call 99; first | ((with_reducible refine (chain hb (C5.out _ (R.below hb))).mono ?_); clear hb; rintro e w1 ⟨rfl, hb⟩) | ((with_reducible refine (chain hb (C6.out _ (R.below hb))).mono ?_); clear hb; rintro e w1 ⟨rfl, hb⟩)) | (go_at_call 26; ((with_reducible refine (chain hb (C7.out _ (R.below hb))).mono ?_); clear hb; rintro e w1 ⟨rfl, hb⟩)))
  go_ret
  exact ⟨rfl, hb⟩
theorem refRMul_any (p q : Rat) (w : World) (R : EnvR w) (hlp : RL p 400) (hlq : RL q 400) :
    Calls Tryz.prog 34 #[.string (ratB p), .string (ratB q)] w fun e w' => e = .returned (.string (ratB (p * q))) ∧ Below w.heap.size w w' := by
  rw [← mul_mk p q, Int.natCast_mul]
  by_cases hp : (ratB p).size ≤ 9
  · by_cases hq : (ratB q).size ≤ 9
    · exact refMul_ss p q hp hq w R
    · exact refMul_sl p q hlp hlq hp (by omega) w R
  · exact refMul_l p q hlp hlq (by omega) w R
theorem neg_zero_rat {q : Rat} (h : q.num = 0) : q = 0 := Rat.num_eq_zero.1 h
set_option maxRecDepth 100000 in
set_option maxHeartbeats 200000 in
theorem refRNeg_zero (a : ByteArray) (h : (a.toList == [48]) = true) (w : World) (_R : EnvR w) :
    Calls Tryz.prog 46 #[.string a] w fun e w' => e = .returned (.string a) ∧ Below w.heap.size w w' := by
  have hb := Below.refl w.heap.size w
  go_enter Tryz.func46, Tryz.ntmps46
  go_wp2
  go_ret
  exact ⟨rfl, hb⟩
set_option maxRecDepth 100000 in
set_option maxHeartbeats 200000 in
theorem refRNeg_minus (a r : ByteArray) (h : (a.toList == [48]) = false) (h0 : 0 < a.size) (hs : a.size ≤ 1000000) (h45 : ((a[0].toNat : Int) == 45) = true) (hr : a.extract 1 a.size = r) (w : World) (_R : EnvR w) :
    Calls Tryz.prog 46 #[.string a] w fun e w' => e = .returned (.string r) ∧ Below w.heap.size w w' := by
  have HR := Lib.hid hr
  clear hr
  have h0' : (0 : Int) < (a.size : Int) := by omega
  have hb := Below.refl w.heap.size w
  go_enter Tryz.func46, Tryz.ntmps46
  go_wp2
  go_ret
  exact ⟨retS HR.out, hb⟩
set_option maxRecDepth 100000 in
set_option maxHeartbeats 200000 in
theorem refRNeg_plus (a r : ByteArray) (h : (a.toList == [48]) = false) (h0 : 0 < a.size) (hs : a.size ≤ 1000000) (h45 : ((a[0].toNat : Int) == 45) = false) (hr : (⟨#[45]⟩ : ByteArray) ++ a = r) (w : World) (_R : EnvR w) :
    Calls Tryz.prog 46 #[.string a] w fun e w' => e = .returned (.string r) ∧ Below w.heap.size w w' := by
  have HR := Lib.hid hr
  clear hr
  have h0' : (0 : Int) < (a.size : Int) := by omega
  have hb := Below.refl w.heap.size w
  go_enter Tryz.func46, Tryz.ntmps46
  go_wp2
  go_ret
  exact ⟨retS HR.out, hb⟩
theorem refRNeg_any (q : Rat) (w : World) (R : EnvR w) (hq : RL q 100000) :
    Calls Tryz.prog 46 #[.string (ratB q)] w fun e w' => e = .returned (.string (ratB (-q))) ∧ Below w.heap.size w w' := by
  have h0 := ratB_pos q
  have hs := size_of_RL hq
  rcases Int.lt_trichotomy q.num 0 with h | h | h
  · refine refRNeg_minus (ratB q) _ ?_ h0 (by omega) (head45 q h0 _ (decide_eq_true h)) (ratB_tail h) w R
    rw [ratB_eq_zero]; exact decide_eq_false (fun e => by rw [e] at h; exact absurd h (by decide))
  · have := neg_zero_rat h
    subst this
    rw [Rat.neg_zero]
    exact refRNeg_zero _ (by rw [ratB_eq_zero]; rfl) w R
  · refine refRNeg_plus (ratB q) _ ?_ h0 (by omega) (head45 q h0 _ (decide_eq_false (by omega))) (ratB_plus h) w R
    rw [ratB_eq_zero]; exact decide_eq_false (fun e => by rw [e] at h; exact absurd h (by decide))
set_option maxRecDepth 100000 in
set_option maxHeartbeats 200000 in
theorem refRSub_any (p q : Rat) (hlp : RL p 400) (hlq : RL q 400) (w : World) (R : EnvR w) :
    Calls Tryz.prog 44 #[.string (ratB p), .string (ratB q)] w fun e w' => e = .returned (.string (ratB (p - q))) ∧ Below w.heap.size w w' := by
  have c1 : ∀ w, EnvR w → Calls Tryz.prog 46 #[.string (ratB q)] w fun e w' => e = .returned (.string (ratB (-q))) ∧ Below w.heap.size w w' := fun w R => refRNeg_any q w R (hlq.mono (by decide))
  have c2 : ∀ w, EnvR w → Calls Tryz.prog 41 #[.string (ratB p), .string (ratB (-q))] w fun e w' => e = .returned (.string (ratB (p - q))) ∧ Below w.heap.size w w' := fun w R => by have := refRAdd_any p (-q) w R hlp (RL_neg hlq); rwa [← Rat.sub_eq_add_neg] at this
  obtain ⟨r, er⟩ : ∃ v, ratB (p - q) = v := ⟨_, rfl⟩
  try simp only [er] at c1 c2 ⊢
  obtain ⟨c, ec⟩ : ∃ v, ratB (-q) = v := ⟨_, rfl⟩
  try simp only [ec] at c1 c2 ⊢
  obtain ⟨a, ea⟩ : ∃ v, ratB p = v := ⟨_, rfl⟩
  try simp only [ea] at c1 c2 ⊢
  obtain ⟨b, eb⟩ : ∃ v, ratB q = v := ⟨_, rfl⟩
  try simp only [eb] at c1 c2 ⊢
  have C1 := Lib.hid c1
  have C2 := Lib.hid c2
  clear c1 c2 er ec ea eb hlp hlq
  have hb := Below.refl w.heap.size w
  go_enter Tryz.func44, Tryz.ntmps44
  go_wp2_with (first | (go_at_call 46; ((with_reducible refine (chain hb (C1.out _ (R.below hb))).mono ?_); clear hb; rintro e w1 ⟨rfl, hb⟩)) | (go_at_call 41; ((with_reducible refine (chain hb (C2.out _ (R.below hb))).mono ?_); clear hb; rintro e w1 ⟨rfl, hb⟩)))
  go_ret
  exact ⟨rfl, hb⟩
set_option maxRecDepth 100000 in
set_option maxHeartbeats 200000 in
theorem refRSign_zero (a : ByteArray) (h : (a.toList == [48]) = true) (w : World) (_R : EnvR w) :
    Calls Tryz.prog 38 #[.string a] w fun e w' => e = .returned (.int .i64 0) ∧ Below w.heap.size w w' := by
  have hb := Below.refl w.heap.size w
  go_enter Tryz.func38, Tryz.ntmps38
  go_wp2
  go_ret
  exact ⟨rfl, hb⟩
set_option maxRecDepth 100000 in
set_option maxHeartbeats 200000 in
theorem refRSign_minus (a : ByteArray) (h : (a.toList == [48]) = false) (h0 : 0 < a.size) (h45 : ((a[0].toNat : Int) == 45) = true) (w : World) (_R : EnvR w) :
    Calls Tryz.prog 38 #[.string a] w fun e w' => e = .returned (.int .i64 (-1)) ∧ Below w.heap.size w w' := by
  have h0' : (0 : Int) < (a.size : Int) := by omega
  have hb := Below.refl w.heap.size w
  go_enter Tryz.func38, Tryz.ntmps38
  go_wp2
  go_ret
  exact ⟨rfl, hb⟩
set_option maxRecDepth 100000 in
set_option maxHeartbeats 200000 in
theorem refRSign_plus (a : ByteArray) (h : (a.toList == [48]) = false) (h0 : 0 < a.size) (h45 : ((a[0].toNat : Int) == 45) = false) (w : World) (_R : EnvR w) :
    Calls Tryz.prog 38 #[.string a] w fun e w' => e = .returned (.int .i64 1) ∧ Below w.heap.size w w' := by
  have h0' : (0 : Int) < (a.size : Int) := by omega
  have hb := Below.refl w.heap.size w
  go_enter Tryz.func38, Tryz.ntmps38
  go_wp2
  go_ret
  exact ⟨rfl, hb⟩
theorem refRSign_any (q : Rat) (w : World) (R : EnvR w) :
    Calls Tryz.prog 38 #[.string (ratB q)] w fun e w' => e = .returned (.int .i64 q.num.sign) ∧ Below w.heap.size w w' := by
  have h0 := ratB_pos q
  rcases Int.lt_trichotomy q.num 0 with h | h | h
  · rw [Int.sign_eq_neg_one_of_neg h]
    refine refRSign_minus (ratB q) ?_ h0 (head45 q h0 _ (decide_eq_true h)) w R
    rw [ratB_eq_zero]; exact decide_eq_false (fun e => by rw [e] at h; exact absurd h (by decide))
  · have := neg_zero_rat h
    subst this
    exact refRSign_zero _ (by rw [ratB_eq_zero]; rfl) w R
  · rw [Int.sign_eq_one_of_pos h]
    refine refRSign_plus (ratB q) ?_ h0 (head45 q h0 _ (decide_eq_false (by omega))) w R
    rw [ratB_eq_zero]; exact decide_eq_false (fun e => by rw [e] at h; exact absurd h (by decide))
set_option maxRecDepth 100000 in
set_option maxHeartbeats 200000 in
theorem refRCompare_any (p q : Rat) (hlp : RL p 400) (hlq : RL q 400) (w : World) (R : EnvR w) :
    Calls Tryz.prog 35 #[.string (ratB p), .string (ratB q)] w fun e w' => e = .returned (.int .i64 (p - q).num.sign) ∧ Below w.heap.size w w' := by
  have c1 : ∀ w, EnvR w → Calls Tryz.prog 44 #[.string (ratB p), .string (ratB q)] w fun e w' => e = .returned (.string (ratB (p - q))) ∧ Below w.heap.size w w' := fun w R => refRSub_any p q hlp hlq w R
  have c2 : ∀ w, EnvR w → Calls Tryz.prog 38 #[.string (ratB (p - q))] w fun e w' => e = .returned (.int .i64 (p - q).num.sign) ∧ Below w.heap.size w w' := fun w R => refRSign_any _ w R
  obtain ⟨z, ez⟩ : ∃ v, (p - q).num.sign = v := ⟨_, rfl⟩
  try simp only [ez] at c1 c2 ⊢
  obtain ⟨c, ec⟩ : ∃ v, ratB (p - q) = v := ⟨_, rfl⟩
  try simp only [ec] at c1 c2 ⊢
  obtain ⟨a, ea⟩ : ∃ v, ratB p = v := ⟨_, rfl⟩
  try simp only [ea] at c1 c2 ⊢
  obtain ⟨b, eb⟩ : ∃ v, ratB q = v := ⟨_, rfl⟩
  try simp only [eb] at c1 c2 ⊢
  have C1 := Lib.hid c1
  have C2 := Lib.hid c2
  clear c1 c2 ez ec ea eb hlp hlq
  have hb := Below.refl w.heap.size w
  go_enter Tryz.func35, Tryz.ntmps35
  go_wp2_with (first | (go_at_call 44; ((with_reducible refine (chain hb (C1.out _ (R.below hb))).mono ?_); clear hb; rintro e w1 ⟨rfl, hb⟩)) | (go_at_call 38; ((with_reducible refine (chain hb (C2.out _ (R.below hb))).mono ?_); clear hb; rintro e w1 ⟨rfl, hb⟩)))
  go_ret
  exact ⟨rfl, hb⟩
set_option maxRecDepth 100000 in
set_option maxHeartbeats 200000 in
theorem refRAbs_m (a r : ByteArray) (hs : ∀ w, EnvR w → Calls Tryz.prog 38 #[.string a] w fun e w' => e = .returned (.int .i64 (-1)) ∧ Below w.heap.size w w') (hn : ∀ w, EnvR w → Calls Tryz.prog 46 #[.string a] w fun e w' => e = .returned (.string r) ∧ Below w.heap.size w w') (w : World) (R : EnvR w) :
    Calls Tryz.prog 48 #[.string a] w fun e w' => e = .returned (.string r) ∧ Below w.heap.size w w' := by
  have c1 : ∀ w, EnvR w → Calls Tryz.prog 38 #[.string a] w fun e w' => e = .returned (.int .i64 (-1)) ∧ Below w.heap.size w w' := fun w R => hs w R
  have c2 : ∀ w, EnvR w → Calls Tryz.prog 46 #[.string a] w fun e w' => e = .returned (.string r) ∧ Below w.heap.size w w' := fun w R => hn w R
  have C1 := Lib.hid c1
  have C2 := Lib.hid c2
  clear c1 c2 hs hn
  have hb := Below.refl w.heap.size w
  go_enter Tryz.func48, Tryz.ntmps48
  go_wp2_with (first | (go_at_call 38; ((with_reducible refine (chain hb (C1.out _ (R.below hb))).mono ?_); clear hb; rintro e w1 ⟨rfl, hb⟩)) | (go_at_call 46; ((with_reducible refine (chain hb (C2.out _ (R.below hb))).mono ?_); clear hb; rintro e w1 ⟨rfl, hb⟩)))
  go_ret
  exact ⟨rfl, hb⟩
set_option maxRecDepth 100000 in
set_option maxHeartbeats 200000 in
theorem refRAbs_p (a : ByteArray) (z : Int) (hz : 0 ≤ z) (hs : ∀ w, EnvR w → Calls Tryz.prog 38 #[.string a] w fun e w' => e = .returned (.int .i64 z) ∧ Below w.heap.size w w') (w : World) (R : EnvR w) :
    Calls Tryz.prog 48 #[.string a] w fun e w' => e = .returned (.string a) ∧ Below w.heap.size w w' := by
  have c1 : ∀ w, EnvR w → Calls Tryz.prog 38 #[.string a] w fun e w' => e = .returned (.int .i64 z) ∧ Below w.heap.size w w' := fun w R => hs w R
  have C1 := Lib.hid c1
  clear c1 hs
  have hb := Below.refl w.heap.size w
  go_enter Tryz.func48, Tryz.ntmps48
  go_wp2_with (go_at_call 38; ((with_reducible refine (chain hb (C1.out _ (R.below hb))).mono ?_); clear hb; rintro e w1 ⟨rfl, hb⟩))
  go_ret
  exact ⟨rfl, hb⟩
theorem refRAbs_any (q : Rat) (w : World) (R : EnvR w) (hq : RL q 100000) :
    Calls Tryz.prog 48 #[.string (ratB q)] w fun e w' => e = .returned (.string (ratB q.abs)) ∧ Below w.heap.size w w' := by
  by_cases h : q.num < 0
  · have e : q.abs = -q := Rat.abs_of_nonpos (by
      rw [Rat.le_iff]; simp only [Rat.zero_num, Rat.zero_den]; omega)
    rw [e]
    refine refRAbs_m (ratB q) _ (fun w R => ?_) (fun w R => refRNeg_any q w R hq) w R
    have := refRSign_any q w R
    rwa [Int.sign_eq_neg_one_of_neg h] at this
  · have e : q.abs = q := Rat.abs_of_nonneg (Rat.num_nonneg.1 (by omega))
    rw [e]
    refine refRAbs_p (ratB q) q.num.sign ?_ (fun w R => refRSign_any q w R) w R
    rcases Int.lt_trichotomy q.num 0 with h1 | h1 | h1
    · exact absurd h1 h
    · rw [h1]; decide
    · rw [Int.sign_eq_one_of_pos h1]; decide
set_option maxRecDepth 100000 in
set_option maxHeartbeats 200000 in
theorem refRFloor_any (q : Rat) (hq : RL q 2000) (w : World) (R : EnvR w) :
    Calls Tryz.prog 55 #[.string (ratB q)] w fun e w' => e = .returned (.string (itoaB q.floor)) ∧ Below w.heap.size w w' := by
  rw [Rat.floor_def]
  have c1 : ∀ w, EnvR w → Calls Tryz.prog 16 #[.string (ratB q)] w fun e w' => e = .returned (.tuple #[.string (itoaB q.num), .string (itoaB q.den)]) ∧ Below w.heap.size w w' := fun w R => refParts_any q w R (hq.mono (by decide))
  have c2 : ∀ w, EnvR w → Calls Tryz.prog 81 #[.string (itoaB q.num), .string (itoaB (q.den : Int))] w fun e w' => e = .returned (.tuple #[.string (itoaB (q.num / (q.den : Int))), .string (itoaB (q.num % (q.den : Int)))]) ∧ Below w.heap.size w w' := fun w R => refDivMod_any _ _ w R.env (Nat.le_trans hq.1 (by decide)) (Nat.le_trans hq.2 (by decide)) (by have := q.den_pos; omega)
  obtain ⟨r, er⟩ : ∃ v, itoaB (q.num / (q.den : Int)) = v := ⟨_, rfl⟩
  try simp only [er] at c1 c2 ⊢
  obtain ⟨t, et⟩ : ∃ v, itoaB (q.num % (q.den : Int)) = v := ⟨_, rfl⟩
  try simp only [et] at c1 c2 ⊢
  obtain ⟨a, ea⟩ : ∃ v, itoaB q.num = v := ⟨_, rfl⟩
  try simp only [ea] at c1 c2 ⊢
  obtain ⟨b, eb⟩ : ∃ v, itoaB (q.den : Int) = v := ⟨_, rfl⟩
  try simp only [eb] at c1 c2 ⊢
  obtain ⟨s, es⟩ : ∃ v, ratB q = v := ⟨_, rfl⟩
  try simp only [es] at c1 c2 ⊢
  have C1 := Lib.hid c1
  have C2 := Lib.hid c2
  clear c1 c2 er et ea eb es hq
  have hb := Below.refl w.heap.size w
  go_enter Tryz.func55, Tryz.ntmps55
  go_wp2_with (first | (go_at_call 16; ((with_reducible refine (chain hb (C1.out _ (R.below hb))).mono ?_); clear hb; rintro e w1 ⟨rfl, hb⟩)) | (go_at_call 81; ((with_reducible refine (chain hb (C2.out _ (R.below hb))).mono ?_); clear hb; rintro e w1 ⟨rfl, hb⟩)))
  go_ret
  exact ⟨rfl, hb⟩
set_option maxRecDepth 100000 in
set_option maxHeartbeats 200000 in
theorem refNearest_any (q : Rat) (hq : RL q 400) (w : World) (R : EnvR w) :
    Calls Tryz.prog 33 #[.string (ratB q)] w fun e w' => e = .returned (.string (itoaB (q + Rat.divInt 1 2).floor)) ∧ Below w.heap.size w w' := by
  have c1 : ∀ w, EnvR w → Calls Tryz.prog 41 #[.string (ratB q), .string ⟨#[49, 47, 50]⟩] w fun e w' => e = .returned (.string (ratB (q + Rat.divInt 1 2))) ∧ Below w.heap.size w w' := fun w R => by have := refRAdd_any q (Rat.divInt 1 2) w R hq (RL_half.mono (by decide)); rwa [half_text] at this
  have c2 : ∀ w, EnvR w → Calls Tryz.prog 55 #[.string (ratB (q + Rat.divInt 1 2))] w fun e w' => e = .returned (.string (itoaB (q + Rat.divInt 1 2).floor)) ∧ Below w.heap.size w w' := fun w R => refRFloor_any _ ((RL_add (by decide) hq RL_half).mono (by decide)) w R
  obtain ⟨r, er⟩ : ∃ v, itoaB (q + Rat.divInt 1 2).floor = v := ⟨_, rfl⟩
  try simp only [er] at c1 c2 ⊢
  obtain ⟨t, et⟩ : ∃ v, ratB (q + Rat.divInt 1 2) = v := ⟨_, rfl⟩
  try simp only [et] at c1 c2 ⊢
  obtain ⟨s, es⟩ : ∃ v, ratB q = v := ⟨_, rfl⟩
  try simp only [es] at c1 c2 ⊢
  have C1 := Lib.hid c1
  have C2 := Lib.hid c2
  clear c1 c2 er et es hq
  have hb := Below.refl w.heap.size w
  go_enter Tryz.func33, Tryz.ntmps33
  go_wp2_with (first | (go_at_call 41; ((with_reducible refine (chain hb (C1.out _ (R.below hb))).mono ?_); clear hb; rintro e w1 ⟨rfl, hb⟩)) | (go_at_call 55; ((with_reducible refine (chain hb (C2.out _ (R.below hb))).mono ?_); clear hb; rintro e w1 ⟨rfl, hb⟩)))
  go_ret
  exact ⟨rfl, hb⟩
theorem RL_inv {q : Rat} {K : Nat} (h : RL q K) (h0 : q.num ≠ 0) : RL q⁻¹ K := by
  refine ⟨?_, ?_⟩
  · rw [Rat.num_inv]
    have : (q.num.sign * (q.den : Int)).natAbs = (q.den : Int).natAbs := by
      rw [Int.natAbs_mul, Int.natAbs_sign_of_ne_zero h0, Nat.one_mul]
    have h2 := h.2
    unfold dlen at h2 ⊢; rw [this]; exact h2
  · rw [Rat.den_inv, if_neg h0]
    have h1 := h.1
    unfold dlen at h1 ⊢; rwa [Int.natAbs_natCast]
set_option maxRecDepth 100000 in
set_option maxHeartbeats 200000 in
theorem refRDiv_any (p q : Rat) (hlp : RL p 400) (hlq : RL q 300) (h0 : q.num ≠ 0) (w : World) (R : EnvR w) :
    Calls Tryz.prog 53 #[.string (ratB p), .string (ratB q)] w fun e w' => e = .returned (.string (ratB (p / q))) ∧ Below w.heap.size w w' := by
  have c1 : ∀ w, EnvR w → Calls Tryz.prog 16 #[.string (ratB q)] w fun e w' => e = .returned (.tuple #[.string (itoaB q.num), .string (itoaB q.den)]) ∧ Below w.heap.size w w' := fun w R => refParts_any q w R (hlq.mono (by decide))
  have c2 : ∀ w, EnvR w → Calls Tryz.prog 26 #[.string (itoaB q.den), .string (itoaB q.num)] w fun e w' => e = .returned (.string (ratB q⁻¹)) ∧ Below w.heap.size w w' := fun w R => by have := refFrac_any (q.den : Int) q.num w R (Nat.le_trans hlq.2 (by decide)) (Nat.le_trans hlq.1 (by decide)) h0; rwa [← Rat.inv_def] at this
  have c3 : ∀ w, EnvR w → Calls Tryz.prog 34 #[.string (ratB p), .string (ratB q⁻¹)] w fun e w' => e = .returned (.string (ratB (p / q))) ∧ Below w.heap.size w w' := fun w R => by rw [Rat.div_def]; exact refRMul_any p q⁻¹ w R hlp ((RL_inv hlq h0).mono (by decide))
  obtain ⟨r, er⟩ : ∃ v, ratB (p / q) = v := ⟨_, rfl⟩
  try simp only [er] at c1 c2 c3 ⊢
  obtain ⟨c, ec⟩ : ∃ v, ratB q⁻¹ = v := ⟨_, rfl⟩
  try simp only [ec] at c1 c2 c3 ⊢
  obtain ⟨n, en⟩ : ∃ v, itoaB q.num = v := ⟨_, rfl⟩
  try simp only [en] at c1 c2 c3 ⊢
  obtain ⟨d, ed⟩ : ∃ v, itoaB (q.den : Int) = v := ⟨_, rfl⟩
  try simp only [ed] at c1 c2 c3 ⊢
  obtain ⟨a, ea⟩ : ∃ v, ratB p = v := ⟨_, rfl⟩
  try simp only [ea] at c1 c2 c3 ⊢
  obtain ⟨b, eb⟩ : ∃ v, ratB q = v := ⟨_, rfl⟩
  try simp only [eb] at c1 c2 c3 ⊢
  have C1 := Lib.hid c1
  have C2 := Lib.hid c2
  have C3 := Lib.hid c3
  clear c1 c2 c3 er ec en ed ea eb hlp hlq h0
  have hb := Below.refl w.heap.size w
  go_enter Tryz.func53, Tryz.ntmps53
  go_wp2_with (first | (go_at_call 16; ((with_reducible refine (chain hb (C1.out _ (R.below hb))).mono ?_); clear hb; rintro e w1 ⟨rfl, hb⟩)) | (go_at_call 26; ((with_reducible refine (chain hb (C2.out _ (R.below hb))).mono ?_); clear hb; rintro e w1 ⟨rfl, hb⟩)) | (go_at_call 34; ((with_reducible refine (chain hb (C3.out _ (R.below hb))).mono ?_); clear hb; rintro e w1 ⟨rfl, hb⟩)))
  go_ret
  exact ⟨rfl, hb⟩
end Go.Proofs.YtgllflfifbacnaaGreatDoor.Kl
