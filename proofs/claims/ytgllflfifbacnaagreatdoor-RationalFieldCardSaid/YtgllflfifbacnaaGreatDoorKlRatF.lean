/- Contracts: package rational's rounding and roots. -/
import Derived.Test.YtgllflfifbacnaaGreatDoorKlRatP
namespace Go.Proofs.YtgllflfifbacnaaGreatDoor.Kl
open Go Go.RowKit

theorem itoa_two : itoaB 2 = ⟨#[50]⟩ := by decide +kernel
theorem dlen_two : dlen 2 = 1 := by decide +kernel
set_option maxRecDepth 100000 in
set_option maxHeartbeats 400000 in
theorem nearest_any (q : Rat) (g : Int) (hq : RL q 10000) (hg : dlen g ≤ 100) (w : World) (R : EnvR w) :
    Calls Tryz.prog 94 #[.string (ratB q), .string (itoaB g)] w fun e w' => e = .returned (.string (itoaB (q * (g : Rat) + Rat.divInt 1 2).floor)) ∧ Below w.heap.size w w' := by
  rw [near_mk]
  have hd := q.den_pos
  have g1 : dlen (q.num * g) ≤ 10000 + 100 := dlen_mul _ _ _ _ (by decide) hq.1 hg
  have g2 : dlen (2 * (q.num * g)) ≤ 1 + (10000 + 100) := dlen_mul _ _ _ _ (by decide) (Nat.le_of_eq dlen_two) g1
  have g3 : dlen (2 * (q.den : Int)) ≤ 1 + 10000 := dlen_mul _ _ _ _ (by decide) (Nat.le_of_eq dlen_two) hq.2
  have g4 : dlen (2 * (q.num * g) + q.den) ≤ 10101 + 1 := dlen_add _ _ _ (by decide) g2 (Nat.le_trans hq.2 (by decide))
  have c1 : ∀ w, EnvR w → Calls Tryz.prog 17 #[.string (ratB q)] w fun e w' => e = .returned (.tuple #[.string (itoaB q.num), .string (itoaB q.den)]) ∧ Below w.heap.size w w' := fun w R => rparts_any q w R (hq.mono (by decide))
  have c2 : ∀ w, EnvR w → Calls Tryz.prog 146 #[.string (itoaB q.num), .string (itoaB g)] w fun e w' => e = .returned (.string (itoaB (q.num * g))) ∧ Below w.heap.size w w' := fun w R => mul_any _ _ w R.env (Nat.le_trans hq.1 (by decide)) (Nat.le_trans hg (by decide))
  have c3 : ∀ w, EnvR w → Calls Tryz.prog 146 #[.string ⟨#[50]⟩, .string (itoaB (q.num * g))] w fun e w' => e = .returned (.string (itoaB (2 * (q.num * g)))) ∧ Below w.heap.size w w' := fun w R => by have := mul_any 2 (q.num * g) w R.env (by decide +kernel) (Nat.le_trans g1 (by decide)); rwa [itoa_two] at this
  have c4 : ∀ w, EnvR w → Calls Tryz.prog 147 #[.string (itoaB (2 * (q.num * g))), .string (itoaB q.den)] w fun e w' => e = .returned (.string (itoaB (2 * (q.num * g) + q.den))) ∧ Below w.heap.size w w' := fun w R => add_any _ _ w R.env (Nat.le_trans g2 (by decide)) (Nat.le_trans hq.2 (by decide))
  have c5 : ∀ w, EnvR w → Calls Tryz.prog 146 #[.string ⟨#[50]⟩, .string (itoaB q.den)] w fun e w' => e = .returned (.string (itoaB (2 * (q.den : Int)))) ∧ Below w.heap.size w w' := fun w R => by have := mul_any 2 q.den w R.env (by decide +kernel) (Nat.le_trans hq.2 (by decide)); rwa [itoa_two] at this
  have c6 : ∀ w, EnvR w → Calls Tryz.prog 76 #[.string (itoaB (2 * (q.num * g) + q.den)), .string (itoaB (2 * (q.den : Int)))] w fun e w' => e = .returned (.string (itoaB ((2 * (q.num * g) + q.den) / (2 * (q.den : Int))))) ∧ Below w.heap.size w w' := fun w R => over_any _ _ w R (Nat.le_trans g4 (by decide)) (Nat.le_trans g3 (by decide)) (by omega)
  obtain ⟨r, er⟩ : ∃ v, itoaB ((2 * (q.num * g) + q.den) / (2 * (q.den : Int))) = v := ⟨_, rfl⟩
  try simp only [er] at c1 c2 c3 c4 c5 c6 ⊢
  obtain ⟨z, ez⟩ : ∃ v, itoaB (2 * (q.num * g) + q.den) = v := ⟨_, rfl⟩
  try simp only [ez] at c1 c2 c3 c4 c5 c6 ⊢
  obtain ⟨y, ey⟩ : ∃ v, itoaB (2 * (q.num * g)) = v := ⟨_, rfl⟩
  try simp only [ey] at c1 c2 c3 c4 c5 c6 ⊢
  obtain ⟨x, ex⟩ : ∃ v, itoaB (q.num * g) = v := ⟨_, rfl⟩
  try simp only [ex] at c1 c2 c3 c4 c5 c6 ⊢
  obtain ⟨d, ed⟩ : ∃ v, itoaB (2 * (q.den : Int)) = v := ⟨_, rfl⟩
  try simp only [ed] at c1 c2 c3 c4 c5 c6 ⊢
  obtain ⟨a, ea⟩ : ∃ v, itoaB q.num = v := ⟨_, rfl⟩
  try simp only [ea] at c1 c2 c3 c4 c5 c6 ⊢
  obtain ⟨b, eb⟩ : ∃ v, itoaB q.den = v := ⟨_, rfl⟩
  try simp only [eb] at c1 c2 c3 c4 c5 c6 ⊢
  obtain ⟨c, ec⟩ : ∃ v, itoaB g = v := ⟨_, rfl⟩
  try simp only [ec] at c1 c2 c3 c4 c5 c6 ⊢
  obtain ⟨s, es⟩ : ∃ v, ratB q = v := ⟨_, rfl⟩
  try simp only [es] at c1 c2 c3 c4 c5 c6 ⊢
  have C1 := Lib.hid c1
  have C2 := Lib.hid c2
  have C3 := Lib.hid c3
  have C4 := Lib.hid c4
  have C5 := Lib.hid c5
  have C6 := Lib.hid c6
  clear c1 c2 c3 c4 c5 c6 er ez ey ex ed ea eb ec es g1 g2 g3 g4 hd hq hg
  have hb := Below.refl w.heap.size w
  go_enter Tryz.func94, Tryz.ntmps94
  go_wp2_with (first | (go_at_call 17; ((with_reducible refine (chain hb (C1.out _ (R.below hb))).mono ?_); clear hb; rintro e w1 ⟨rfl, hb⟩)) | (go_at_call 146; first | ((with_reducible refine (chain hb (C2.out _ (R.below hb))).mono ?_); clear hb; rintro e w1 ⟨rfl, hb⟩) | ((with_reducible refine (chain hb (C3.out _ (R.below hb))).mono ?_); clear hb; rintro e w1 ⟨rfl, hb⟩) | ((with_reducible refine (chain hb (C5.out _ (R.below hb))).mono ?_); clear hb; rintro e w1 ⟨rfl, hb⟩)) | (go_at_call 147; ((with_reducible refine (chain hb (C4.out _ (R.below hb))).mono ?_); clear hb; rintro e w1 ⟨rfl, hb⟩)) | (go_at_call 76; ((with_reducible refine (chain hb (C6.out _ (R.below hb))).mono ?_); clear hb; rintro e w1 ⟨rfl, hb⟩)))
  go_ret
  exact ⟨rfl, hb⟩
theorem dlen_ediv (z d : Int) (K : Nat) (hK : 0 < K) (h : dlen z ≤ K) : dlen (z / d) ≤ K :=
  dlen_le _ _ hK (Nat.lt_of_le_of_lt (Int.natAbs_ediv_le_natAbs z d) (dlen_lt _ _ h))
theorem near_dlen (q : Rat) (g : Int) (hq : RL q 10000) (hg : dlen g ≤ 100) : dlen (q * (g : Rat) + Rat.divInt 1 2).floor ≤ 10200 := by
  rw [near_mk]
  have hd := q.den_pos
  have g1 : dlen (q.num * g) ≤ 10000 + 100 := dlen_mul _ _ _ _ (by decide) hq.1 hg
  have g2 : dlen (2 * (q.num * g)) ≤ 1 + (10000 + 100) := dlen_mul _ _ _ _ (by decide) (Nat.le_of_eq dlen_two) g1
  have g4 : dlen (2 * (q.num * g) + q.den) ≤ 10101 + 1 := dlen_add _ _ _ (by decide) g2 (Nat.le_trans hq.2 (by decide))
  obtain ⟨z, hz⟩ : ∃ z, 2 * (q.num * g) + q.den = z := ⟨_, rfl⟩
  rw [hz] at g4 ⊢
  exact Nat.le_trans (dlen_ediv z (2 * (q.den : Int)) (10101 + 1) (Nat.zero_lt_succ _) g4) (by decide)
theorem rb_eq (a b : ByteArray) : (a.toList == b.toList) = decide (a = b) := by
  rw [Bool.eq_iff_iff, beq_iff_eq, decide_eq_true_iff, Lib.toList_data, Lib.toList_data]
  exact ⟨dat_inj, fun h => by rw [h]⟩
theorem itoaB_eq (x y : Int) : ((itoaB x).toList == (itoaB y).toList) = decide (x = y) := by
  rw [rb_eq, decide_eq_decide]; exact ⟨itoa_inj, fun h => by rw [h]⟩
set_option maxRecDepth 100000 in
set_option maxHeartbeats 200000 in
theorem rootOf_neg (x : Int) (h : x < 0) (w : World) (R : EnvR w) :
    Calls Tryz.prog 112 #[.string (itoaB x)] w fun e w' => e = .returned (.tuple #[.string ⟨#[]⟩, .bool false]) ∧ Below w.heap.size w w' := by
  have c1 : ∀ w, EnvR w → Calls Tryz.prog 158 #[.string (itoaB x)] w fun e w' => e = .returned (.tuple #[.string ⟨#[]⟩, .int .i64 3]) ∧ Below w.heap.size w w' := fun w R => root_neg x w h
  obtain ⟨a, ea⟩ : ∃ v, itoaB x = v := ⟨_, rfl⟩
  try simp only [ea] at c1 ⊢
  have C1 := Lib.hid c1
  clear c1 ea h
  have hb := Below.refl w.heap.size w
  go_enter Tryz.func112, Tryz.ntmps112
  go_wp2_with (go_at_call 158; ((with_reducible refine (chain hb (C1.out _ (R.below hb))).mono ?_); clear hb; rintro e w1 ⟨rfl, hb⟩))
  go_ret2
  exact ⟨rfl, hb⟩
set_option maxRecDepth 100000 in
set_option maxHeartbeats 200000 in
theorem rootOf_yes (x : Nat) (hx : dlen (x : Int) ≤ 10000) (h : rootN x * rootN x = x) (w : World) (R : EnvR w) :
    Calls Tryz.prog 112 #[.string (itoaB (x : Int))] w fun e w' => e = .returned (.tuple #[.string (itoaB (rootN x)), .bool true]) ∧ Below w.heap.size w w' := by
  have hr : dlen ((rootN x : Nat) : Int) ≤ 10000 := dlen_nat_le _ (x : Int) _ (by decide) (rootN_le x) hx
  have c1 : ∀ w, EnvR w → Calls Tryz.prog 158 #[.string (itoaB (x : Int))] w fun e w' => e = .returned (.tuple #[.string (itoaB (rootN x)), .int .i64 0]) ∧ Below w.heap.size w w' := fun w R => root_any x w R.env (Nat.le_trans hx (by decide))
  have c2 : ∀ w, EnvR w → Calls Tryz.prog 146 #[.string (itoaB (rootN x)), .string (itoaB (rootN x))] w fun e w' => e = .returned (.string (itoaB (((rootN x : Nat) : Int) * ((rootN x : Nat) : Int)))) ∧ Below w.heap.size w w' := fun w R => mul_any _ _ w R.env (Nat.le_trans hr (by decide)) (Nat.le_trans hr (by decide))
  have he : ((itoaB (((rootN x : Nat) : Int) * ((rootN x : Nat) : Int))).toList == (itoaB (x : Int)).toList) = true := by rw [itoaB_eq, ← Int.natCast_mul]; exact decide_eq_true (by omega)
  obtain ⟨m, em⟩ : ∃ v, itoaB (((rootN x : Nat) : Int) * ((rootN x : Nat) : Int)) = v := ⟨_, rfl⟩
  try simp only [em] at c1 c2 he ⊢
  obtain ⟨r, er⟩ : ∃ v, itoaB ((rootN x : Nat) : Int) = v := ⟨_, rfl⟩
  try simp only [er] at c1 c2 he ⊢
  obtain ⟨a, ea⟩ : ∃ v, itoaB (x : Int) = v := ⟨_, rfl⟩
  try simp only [ea] at c1 c2 he ⊢
  have C1 := Lib.hid c1
  have C2 := Lib.hid c2
  clear c1 c2 em er ea h hx hr
  have hb := Below.refl w.heap.size w
  go_enter Tryz.func112, Tryz.ntmps112
  go_wp2_with (first | (go_at_call 158; ((with_reducible refine (chain hb (C1.out _ (R.below hb))).mono ?_); clear hb; rintro e w1 ⟨rfl, hb⟩)) | (go_at_call 146; ((with_reducible refine (chain hb (C2.out _ (R.below hb))).mono ?_); clear hb; rintro e w1 ⟨rfl, hb⟩)))
  go_ret2
  exact ⟨rfl, hb⟩
set_option maxRecDepth 100000 in
set_option maxHeartbeats 200000 in
theorem rootOf_no (x : Nat) (hx : dlen (x : Int) ≤ 10000) (h : rootN x * rootN x ≠ x) (w : World) (R : EnvR w) :
    Calls Tryz.prog 112 #[.string (itoaB (x : Int))] w fun e w' => e = .returned (.tuple #[.string ⟨#[]⟩, .bool false]) ∧ Below w.heap.size w w' := by
  have hr : dlen ((rootN x : Nat) : Int) ≤ 10000 := dlen_nat_le _ (x : Int) _ (by decide) (rootN_le x) hx
  have c1 : ∀ w, EnvR w → Calls Tryz.prog 158 #[.string (itoaB (x : Int))] w fun e w' => e = .returned (.tuple #[.string (itoaB (rootN x)), .int .i64 0]) ∧ Below w.heap.size w w' := fun w R => root_any x w R.env (Nat.le_trans hx (by decide))
  have c2 : ∀ w, EnvR w → Calls Tryz.prog 146 #[.string (itoaB (rootN x)), .string (itoaB (rootN x))] w fun e w' => e = .returned (.string (itoaB (((rootN x : Nat) : Int) * ((rootN x : Nat) : Int)))) ∧ Below w.heap.size w w' := fun w R => mul_any _ _ w R.env (Nat.le_trans hr (by decide)) (Nat.le_trans hr (by decide))
  have he : ((itoaB (((rootN x : Nat) : Int) * ((rootN x : Nat) : Int))).toList == (itoaB (x : Int)).toList) = false := by rw [itoaB_eq, ← Int.natCast_mul]; exact decide_eq_false (by omega)
  obtain ⟨m, em⟩ : ∃ v, itoaB (((rootN x : Nat) : Int) * ((rootN x : Nat) : Int)) = v := ⟨_, rfl⟩
  try simp only [em] at c1 c2 he ⊢
  obtain ⟨r, er⟩ : ∃ v, itoaB ((rootN x : Nat) : Int) = v := ⟨_, rfl⟩
  try simp only [er] at c1 c2 he ⊢
  obtain ⟨a, ea⟩ : ∃ v, itoaB (x : Int) = v := ⟨_, rfl⟩
  try simp only [ea] at c1 c2 he ⊢
  have C1 := Lib.hid c1
  have C2 := Lib.hid c2
  clear c1 c2 em er ea h hx hr
  have hb := Below.refl w.heap.size w
  go_enter Tryz.func112, Tryz.ntmps112
  go_wp2_with (first | (go_at_call 158; ((with_reducible refine (chain hb (C1.out _ (R.below hb))).mono ?_); clear hb; rintro e w1 ⟨rfl, hb⟩)) | (go_at_call 146; ((with_reducible refine (chain hb (C2.out _ (R.below hb))).mono ?_); clear hb; rintro e w1 ⟨rfl, hb⟩)))
  go_ret2
  exact ⟨rfl, hb⟩
/-- The root of an integer, and whether it is one. -/
def sqB (x : Int) : Bool := decide (0 ≤ x) && decide (rootN x.toNat * rootN x.toNat = x.toNat)
def sqV (x : Int) : ByteArray := if sqB x then itoaB (rootN x.toNat) else ⟨#[]⟩
theorem rootOf_any (x : Int) (w : World) (R : EnvR w) (hx : dlen x ≤ 10000) :
    Calls Tryz.prog 112 #[.string (itoaB x)] w fun e w' => e = .returned (.tuple #[.string (sqV x), .bool (sqB x)]) ∧ Below w.heap.size w w' := by
  by_cases h : x < 0
  · have e : sqB x = false := by unfold sqB; rw [decide_eq_false (by omega)]; rfl
    unfold sqV; rw [e]
    exact rootOf_neg x h w R
  · obtain ⟨n, rfl⟩ : ∃ n : Nat, x = n := ⟨x.toNat, by omega⟩
    by_cases h2 : rootN n * rootN n = n
    · have e : sqB (n : Int) = true := by unfold sqB; rw [decide_eq_true (by omega), Int.toNat_natCast, decide_eq_true h2]; rfl
      unfold sqV; rw [e, if_pos rfl, Int.toNat_natCast]
      exact rootOf_yes n hx h2 w R
    · have e : sqB (n : Int) = false := by unfold sqB; rw [decide_eq_true (by omega), Int.toNat_natCast, decide_eq_false h2]; rfl
      unfold sqV; rw [e]
      exact rootOf_no n hx h2 w R
set_option maxRecDepth 100000 in
set_option maxHeartbeats 200000 in
theorem root_t_t (s a b u v r : ByteArray) (hp : ∀ w, EnvR w → Calls Tryz.prog 17 #[.string s] w fun e w' => e = .returned (.tuple #[.string a, .string b]) ∧ Below w.heap.size w w') (hr1 : ∀ w, EnvR w → Calls Tryz.prog 112 #[.string a] w fun e w' => e = .returned (.tuple #[.string u, .bool true]) ∧ Below w.heap.size w w') (hr2 : ∀ w, EnvR w → Calls Tryz.prog 112 #[.string b] w fun e w' => e = .returned (.tuple #[.string v, .bool true]) ∧ Below w.heap.size w w') (hj : ∀ w, EnvR w → Calls Tryz.prog 75 #[.string u, .string v] w fun e w' => e = .returned (.string r) ∧ Below w.heap.size w w') (w : World) (R : EnvR w) :
    Calls Tryz.prog 58 #[.string s] w fun e w' => e = .returned (.tuple #[.string r, .bool true]) ∧ Below w.heap.size w w' := by
  have c1 : ∀ w, EnvR w → Calls Tryz.prog 17 #[.string s] w fun e w' => e = .returned (.tuple #[.string a, .string b]) ∧ Below w.heap.size w w' := fun w R => hp w R
  have c2 : ∀ w, EnvR w → Calls Tryz.prog 112 #[.string a] w fun e w' => e = .returned (.tuple #[.string u, .bool true]) ∧ Below w.heap.size w w' := fun w R => hr1 w R
  have c3 : ∀ w, EnvR w → Calls Tryz.prog 112 #[.string b] w fun e w' => e = .returned (.tuple #[.string v, .bool true]) ∧ Below w.heap.size w w' := fun w R => hr2 w R
  have c4 : ∀ w, EnvR w → Calls Tryz.prog 75 #[.string u, .string v] w fun e w' => e = .returned (.string r) ∧ Below w.heap.size w w' := fun w R => hj w R
  have C1 := Lib.hid c1
  have C2 := Lib.hid c2
  have C3 := Lib.hid c3
  have C4 := Lib.hid c4
  clear c1 c2 c3 c4 hp hr1 hr2 hj
  have hb := Below.refl w.heap.size w
  go_enter Tryz.func58, Tryz.ntmps58
  go_wp2_with (first | (go_at_call 17; ((with_reducible refine (chain hb (C1.out _ (R.below hb))).mono ?_); clear hb; rintro e w1 ⟨rfl, hb⟩)) | (go_at_call 112; first | ((with_reducible refine (chain hb (C2.out _ (R.below hb))).mono ?_); clear hb; rintro e w1 ⟨rfl, hb⟩) | ((with_reducible refine (chain hb (C3.out _ (R.below hb))).mono ?_); clear hb; rintro e w1 ⟨rfl, hb⟩)) | (go_at_call 75; ((with_reducible refine (chain hb (C4.out _ (R.below hb))).mono ?_); clear hb; rintro e w1 ⟨rfl, hb⟩)))
  go_ret2
  exact ⟨rfl, hb⟩
set_option maxRecDepth 100000 in
set_option maxHeartbeats 200000 in
theorem root_t_f (s a b u v : ByteArray) (hp : ∀ w, EnvR w → Calls Tryz.prog 17 #[.string s] w fun e w' => e = .returned (.tuple #[.string a, .string b]) ∧ Below w.heap.size w w') (hr1 : ∀ w, EnvR w → Calls Tryz.prog 112 #[.string a] w fun e w' => e = .returned (.tuple #[.string u, .bool true]) ∧ Below w.heap.size w w') (hr2 : ∀ w, EnvR w → Calls Tryz.prog 112 #[.string b] w fun e w' => e = .returned (.tuple #[.string v, .bool false]) ∧ Below w.heap.size w w') (w : World) (R : EnvR w) :
    Calls Tryz.prog 58 #[.string s] w fun e w' => e = .returned (.tuple #[.string ⟨#[]⟩, .bool false]) ∧ Below w.heap.size w w' := by
  have c1 : ∀ w, EnvR w → Calls Tryz.prog 17 #[.string s] w fun e w' => e = .returned (.tuple #[.string a, .string b]) ∧ Below w.heap.size w w' := fun w R => hp w R
  have c2 : ∀ w, EnvR w → Calls Tryz.prog 112 #[.string a] w fun e w' => e = .returned (.tuple #[.string u, .bool true]) ∧ Below w.heap.size w w' := fun w R => hr1 w R
  have c3 : ∀ w, EnvR w → Calls Tryz.prog 112 #[.string b] w fun e w' => e = .returned (.tuple #[.string v, .bool false]) ∧ Below w.heap.size w w' := fun w R => hr2 w R
  have C1 := Lib.hid c1
  have C2 := Lib.hid c2
  have C3 := Lib.hid c3
  clear c1 c2 c3 hp hr1 hr2
  have hb := Below.refl w.heap.size w
  go_enter Tryz.func58, Tryz.ntmps58
  go_wp2_with (first | (go_at_call 17; ((with_reducible refine (chain hb (C1.out _ (R.below hb))).mono ?_); clear hb; rintro e w1 ⟨rfl, hb⟩)) | (go_at_call 112; first | ((with_reducible refine (chain hb (C2.out _ (R.below hb))).mono ?_); clear hb; rintro e w1 ⟨rfl, hb⟩) | ((with_reducible refine (chain hb (C3.out _ (R.below hb))).mono ?_); clear hb; rintro e w1 ⟨rfl, hb⟩)))
  go_ret2
  exact ⟨rfl, hb⟩
set_option maxRecDepth 100000 in
set_option maxHeartbeats 200000 in
theorem root_f_t (s a b u v : ByteArray) (hp : ∀ w, EnvR w → Calls Tryz.prog 17 #[.string s] w fun e w' => e = .returned (.tuple #[.string a, .string b]) ∧ Below w.heap.size w w') (hr1 : ∀ w, EnvR w → Calls Tryz.prog 112 #[.string a] w fun e w' => e = .returned (.tuple #[.string u, .bool false]) ∧ Below w.heap.size w w') (hr2 : ∀ w, EnvR w → Calls Tryz.prog 112 #[.string b] w fun e w' => e = .returned (.tuple #[.string v, .bool true]) ∧ Below w.heap.size w w') (w : World) (R : EnvR w) :
    Calls Tryz.prog 58 #[.string s] w fun e w' => e = .returned (.tuple #[.string ⟨#[]⟩, .bool false]) ∧ Below w.heap.size w w' := by
  have c1 : ∀ w, EnvR w → Calls Tryz.prog 17 #[.string s] w fun e w' => e = .returned (.tuple #[.string a, .string b]) ∧ Below w.heap.size w w' := fun w R => hp w R
  have c2 : ∀ w, EnvR w → Calls Tryz.prog 112 #[.string a] w fun e w' => e = .returned (.tuple #[.string u, .bool false]) ∧ Below w.heap.size w w' := fun w R => hr1 w R
  have c3 : ∀ w, EnvR w → Calls Tryz.prog 112 #[.string b] w fun e w' => e = .returned (.tuple #[.string v, .bool true]) ∧ Below w.heap.size w w' := fun w R => hr2 w R
  have C1 := Lib.hid c1
  have C2 := Lib.hid c2
  have C3 := Lib.hid c3
  clear c1 c2 c3 hp hr1 hr2
  have hb := Below.refl w.heap.size w
  go_enter Tryz.func58, Tryz.ntmps58
  go_wp2_with (first | (go_at_call 17; ((with_reducible refine (chain hb (C1.out _ (R.below hb))).mono ?_); clear hb; rintro e w1 ⟨rfl, hb⟩)) | (go_at_call 112; first | ((with_reducible refine (chain hb (C2.out _ (R.below hb))).mono ?_); clear hb; rintro e w1 ⟨rfl, hb⟩) | ((with_reducible refine (chain hb (C3.out _ (R.below hb))).mono ?_); clear hb; rintro e w1 ⟨rfl, hb⟩)))
  go_ret2
  exact ⟨rfl, hb⟩
set_option maxRecDepth 100000 in
set_option maxHeartbeats 200000 in
theorem root_f_f (s a b u v : ByteArray) (hp : ∀ w, EnvR w → Calls Tryz.prog 17 #[.string s] w fun e w' => e = .returned (.tuple #[.string a, .string b]) ∧ Below w.heap.size w w') (hr1 : ∀ w, EnvR w → Calls Tryz.prog 112 #[.string a] w fun e w' => e = .returned (.tuple #[.string u, .bool false]) ∧ Below w.heap.size w w') (hr2 : ∀ w, EnvR w → Calls Tryz.prog 112 #[.string b] w fun e w' => e = .returned (.tuple #[.string v, .bool false]) ∧ Below w.heap.size w w') (w : World) (R : EnvR w) :
    Calls Tryz.prog 58 #[.string s] w fun e w' => e = .returned (.tuple #[.string ⟨#[]⟩, .bool false]) ∧ Below w.heap.size w w' := by
  have c1 : ∀ w, EnvR w → Calls Tryz.prog 17 #[.string s] w fun e w' => e = .returned (.tuple #[.string a, .string b]) ∧ Below w.heap.size w w' := fun w R => hp w R
  have c2 : ∀ w, EnvR w → Calls Tryz.prog 112 #[.string a] w fun e w' => e = .returned (.tuple #[.string u, .bool false]) ∧ Below w.heap.size w w' := fun w R => hr1 w R
  have c3 : ∀ w, EnvR w → Calls Tryz.prog 112 #[.string b] w fun e w' => e = .returned (.tuple #[.string v, .bool false]) ∧ Below w.heap.size w w' := fun w R => hr2 w R
  have C1 := Lib.hid c1
  have C2 := Lib.hid c2
  have C3 := Lib.hid c3
  clear c1 c2 c3 hp hr1 hr2
  have hb := Below.refl w.heap.size w
  go_enter Tryz.func58, Tryz.ntmps58
  go_wp2_with (first | (go_at_call 17; ((with_reducible refine (chain hb (C1.out _ (R.below hb))).mono ?_); clear hb; rintro e w1 ⟨rfl, hb⟩)) | (go_at_call 112; first | ((with_reducible refine (chain hb (C2.out _ (R.below hb))).mono ?_); clear hb; rintro e w1 ⟨rfl, hb⟩) | ((with_reducible refine (chain hb (C3.out _ (R.below hb))).mono ?_); clear hb; rintro e w1 ⟨rfl, hb⟩)))
  go_ret2
  exact ⟨rfl, hb⟩
/-- The number whose parts are the roots of a number's. -/
def rootQ (q : Rat) : Rat := Rat.divInt (rootN q.num.toNat) (rootN q.den)
theorem rootQ_parts {q : Rat} (h1 : sqB q.num = true) (h2 : sqB q.den = true) : (rootQ q).num = (rootN q.num.toNat : Int) ∧ ((rootQ q).den : Int) = (rootN q.den : Int) := by
  unfold sqB at h1 h2
  rw [Bool.and_eq_true, decide_eq_true_eq, decide_eq_true_eq] at h1 h2
  rw [Int.toNat_natCast] at h2
  have hd := q.den_pos
  obtain ⟨s, hs⟩ : ∃ s, rootN q.den = s := ⟨_, rfl⟩
  obtain ⟨r, hr⟩ : ∃ r, rootN q.num.toNat = r := ⟨_, rfl⟩
  have hs0 : 0 < s := by
    rcases Nat.eq_zero_or_pos s with e | e
    · rw [hs, e] at h2; omega
    · exact e
  have hc : Nat.gcd r s = 1 := by
    have hred : Nat.gcd q.num.natAbs q.den = 1 := q.reduced
    have g1 : Nat.gcd r s ∣ q.num.natAbs := by
      have e : q.num.natAbs = r * r := by rw [← hr]; omega
      rw [e]; exact Nat.dvd_mul_right_of_dvd (Nat.gcd_dvd_left ..) _
    have g2 : Nat.gcd r s ∣ q.den := by
      have e : q.den = s * s := by rw [← hs]; omega
      rw [e]; exact Nat.dvd_mul_right_of_dvd (Nat.gcd_dvd_right ..) _
    exact Nat.eq_one_of_dvd_one (hred ▸ Nat.dvd_gcd g1 g2)
  obtain ⟨m1, m2⟩ := mk_parts (r : Int) (s : Int) (by omega)
  rw [Int.natAbs_natCast, Int.natAbs_natCast, hc] at m1 m2
  unfold rootQ
  rw [hr, hs, m1, m2]
  exact ⟨Int.ediv_one _, Int.ediv_one _⟩
/-- The rational root. -/
theorem rroot_any (q : Rat) (w : World) (R : EnvR w) (hq : RL q 10000) :
    Calls Tryz.prog 58 #[.string (ratB q)] w fun e w' => e = .returned (.tuple #[.string (if sqB q.num && sqB q.den then ratB (rootQ q) else ⟨#[]⟩), .bool (sqB q.num && sqB q.den)]) ∧ Below w.heap.size w w' := by
  have hp := fun w R => rparts_any q w R (hq.mono (by decide))
  have h1 := fun w R => rootOf_any q.num w R hq.1
  have h2 := fun w R => rootOf_any (q.den : Int) w R hq.2
  cases e1 : sqB q.num
  · cases e2 : sqB (q.den : Int)
    · rw [e1] at h1; rw [e2] at h2
      exact root_f_f _ _ _ _ _ hp h1 h2 w R
    · rw [e1] at h1; rw [e2] at h2
      exact root_f_t _ _ _ _ _ hp h1 h2 w R
  · cases e2 : sqB (q.den : Int)
    · rw [e1] at h1; rw [e2] at h2
      exact root_t_f _ _ _ _ _ hp h1 h2 w R
    · rw [e1] at h1; rw [e2] at h2
      obtain ⟨p1, p2⟩ := rootQ_parts e1 e2
      refine root_t_t _ _ _ _ _ _ hp h1 h2 (fun w R => ?_) w R
      unfold sqV
      rw [e1, e2, if_pos rfl, if_pos rfl, Int.toNat_natCast]
      exact join_any _ _ _ p1 p2 w R ⟨by rw [p1]; exact Nat.le_trans (dlen_nat_le _ q.num _ (by decide) (Nat.le_trans (rootN_le _) (by omega)) hq.1) (by decide), by rw [p2]; exact Nat.le_trans (dlen_nat_le _ (q.den : Int) _ (by decide) (rootN_le _) hq.2) (by decide)⟩
end Go.Proofs.YtgllflfifbacnaaGreatDoor.Kl
