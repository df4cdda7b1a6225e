/- The walk of klippelaw02.RationalChecks: true, whatever the text. -/
import Derived.Test.YtgllflfifbacnaaGreatDoorKlRatK
import Derived.Test.YtgllflfifbacnaaGreatDoorKlKnown2
namespace Go.Proofs.YtgllflfifbacnaaGreatDoor.Kl
open Go Go.RowKit

theorem trim_itoa (n : Int) (w : World) : Calls Tryz.prog 19 #[.string (itoaB n), .string ⟨#[45]⟩] w fun e w' => e = .returned (.string (itoaB n.natAbs)) ∧ Below w.heap.size w w' :=
  (trimPrefix_call _ _ w).mono fun e w' h => ⟨h.1.trans (by
    show Ending.returned (.string ⟨(Lib.trimPrefix (Lib.itoa n) [45]).toArray⟩) = _
    rw [trimPrefix_minus, mag_itoa]
    unfold itoaB strOf
    rw [itoa_nat _ (by omega), Int.toNat_natCast]), by rw [← h.2]; exact Below.refl _ _⟩
theorem nat_size (n : Nat) : (itoaB (n : Int)).size = dlen n := by
  unfold itoaB; rw [strOf_size, itoa_len, if_neg (by omega)]; omega
theorem short_iff (n : Int) : dlen n ≤ 18 ↔ n.natAbs < 1000000000000000000 := ⟨fun h => dlen_lt n 18 h, fun h => dlen_le n 18 (by decide) h⟩
set_option maxRecDepth 100000 in
set_option maxHeartbeats 2000000 in
theorem lawChecks_long (s : ByteArray) (hs : 410 < s.size) (hm : s.size ≤ 9223372036854775807) (w : World) (R : EnvR w) :
    Calls Tryz.prog 3 #[.string s] w fun e w' => e = .returned (.bool true) ∧ Below w.heap.size w w' := by
  have c1 : ∀ w, EnvR w → Calls Tryz.prog 13 #[] w fun e w' => e = .returned (.bool true) ∧ Below w.heap.size w w' := fun w R => known2_any w R
  have C1 := Lib.hid c1
  clear c1
  have hb := Below.refl w.heap.size w
  go_enter Tryz.func3, Tryz.ntmps3
  go_wp2_with (go_at_call 13; ((with_reducible refine (chain hb (C1.out _ (R.below hb))).mono ?_); clear hb; rintro e w1 ⟨rfl, hb⟩))
  go_ret
  exact ⟨rfl, hb⟩
set_option maxRecDepth 100000 in
set_option maxHeartbeats 2000000 in
theorem lawChecks_not (s : ByteArray) (hs : s.size ≤ 410) (hr : ¬ IsRat s.data.toList) (w : World) (R : EnvR w) :
    Calls Tryz.prog 3 #[.string s] w fun e w' => e = .returned (.bool true) ∧ Below w.heap.size w w' := by
  have c1 : ∀ w, EnvR w → Calls Tryz.prog 13 #[] w fun e w' => e = .returned (.bool true) ∧ Below w.heap.size w w' := fun w R => known2_any w R
  have c2 : ∀ w, EnvR w → Calls Tryz.prog 14 #[.string s] w fun e w' => e = .returned (.bool false) ∧ Below w.heap.size w w' := fun w R => refRRight_any s false ⟨fun h => (by cases h), fun h => absurd h hr⟩ (by omega) w R
  have c3 : ∀ w, EnvR w → Calls Tryz.prog 15 #[.string s] w fun e w' => e = .returned (.int .i64 2) ∧ Below w.heap.size w w' := fun w R => rcheck_any s 2 (.inr ⟨hr, rfl⟩) (by omega) w R
  have C1 := Lib.hid c1
  have C2 := Lib.hid c2
  have C3 := Lib.hid c3
  clear c1 c2 c3 hr
  have hb := Below.refl w.heap.size w
  go_enter Tryz.func3, Tryz.ntmps3
  go_wp2_with (first | (go_at_call 13; ((with_reducible refine (chain hb (C1.out _ (R.below hb))).mono ?_); clear hb; rintro e w1 ⟨rfl, hb⟩)) | (go_at_call 14; ((with_reducible refine (chain hb (C2.out _ (R.below hb))).mono ?_); clear hb; rintro e w1 ⟨rfl, hb⟩)) | (go_at_call 15; ((with_reducible refine (chain hb (C3.out _ (R.below hb))).mono ?_); clear hb; rintro e w1 ⟨rfl, hb⟩)))
  go_ret
  exact ⟨rfl, hb⟩
set_option maxRecDepth 100000 in
set_option maxHeartbeats 4000000 in
theorem lawChecks_short (q : Rat) (hs : (ratB q).size ≤ 410) (hq : RL q 200) (h : -1000000000000000000 < q.num ∧ q.num < 1000000000000000000 ∧ q.den < 1000000000000000000) (w : World) (R : EnvR w) :
    Calls Tryz.prog 3 #[.string (ratB q)] w fun e w' => e = .returned (.bool true) ∧ Below w.heap.size w w' := by
  have hr : IsRat (ratB q).data.toList := ⟨q, rfl, hq⟩
  have c1 : ∀ w, EnvR w → Calls Tryz.prog 13 #[] w fun e w' => e = .returned (.bool true) ∧ Below w.heap.size w w' := fun w R => known2_any w R
  have c2 : ∀ w, EnvR w → Calls Tryz.prog 14 #[.string (ratB q)] w fun e w' => e = .returned (.bool true) ∧ Below w.heap.size w w' := fun w R => refRRight_any _ true ⟨fun _ => hr, fun _ => rfl⟩ (by omega) w R
  have c3 : ∀ w, EnvR w → Calls Tryz.prog 15 #[.string (ratB q)] w fun e w' => e = .returned (.int .i64 0) ∧ Below w.heap.size w w' := fun w R => rcheck_any _ 0 (.inl ⟨hr, rfl⟩) (by omega) w R
  have c4 : ∀ w, EnvR w → Calls Tryz.prog 16 #[.string (ratB q)] w fun e w' => e = .returned (.tuple #[.string (itoaB q.num), .string (itoaB (q.den : Int))]) ∧ Below w.heap.size w w' := fun w R => refParts_any q w R (hq.mono (by decide))
  have c5 : ∀ w, EnvR w → Calls Tryz.prog 17 #[.string (ratB q)] w fun e w' => e = .returned (.tuple #[.string (itoaB q.num), .string (itoaB (q.den : Int))]) ∧ Below w.heap.size w w' := fun w R => rparts_any q w R (hq.mono (by decide))
  have c6 : ∀ w, EnvR w → Calls Tryz.prog 18 #[.string (ratB q)] w fun e w' => e = .returned (.tuple #[.int .i64 q.num, .int .i64 (q.den : Int), .bool true]) ∧ Below w.heap.size w w' := fun w R => rsmall_yes q h w R
  have c7 : ∀ w, EnvR w → Calls Tryz.prog 19 #[.string (itoaB q.num), .string ⟨#[45]⟩] w fun e w' => e = .returned (.string (itoaB (q.num.natAbs : Int))) ∧ Below w.heap.size w w' := fun w R => trim_itoa q.num w
  have c8 : ∀ w, EnvR w → Calls Tryz.prog 20 #[.int .i64 q.num] w fun e w' => e = .returned (.string (itoaB q.num)) ∧ Below w.heap.size w w' := fun w R => refOf_any q.num (by omega) (by omega) w R.env
  have c9 : ∀ w, EnvR w → Calls Tryz.prog 20 #[.int .i64 (q.den : Int)] w fun e w' => e = .returned (.string (itoaB (q.den : Int))) ∧ Below w.heap.size w w' := fun w R => refOf_any (q.den : Int) (by omega) (by omega) w R.env
  have hm : (itoaB (q.num.natAbs : Int)).size ≤ 18 := by rw [nat_size]; exact (short_iff (q.num.natAbs : Int)).2 (by omega)
  have hd : (itoaB (q.den : Int)).size ≤ 18 := by rw [nat_size]; exact (short_iff (q.den : Int)).2 (by omega)
  have hsz : (ratB q).size ≤ 410 := hs
  obtain ⟨n, en⟩ : ∃ v, itoaB q.num = v := ⟨_, rfl⟩
  try simp only [en] at c1 c2 c3 c4 c5 c6 c7 c8 c9 hm hd hsz ⊢
  obtain ⟨m, em⟩ : ∃ v, itoaB (q.num.natAbs : Int) = v := ⟨_, rfl⟩
  try simp only [em] at c1 c2 c3 c4 c5 c6 c7 c8 c9 hm hd hsz ⊢
  obtain ⟨d, ed⟩ : ∃ v, itoaB (q.den : Int) = v := ⟨_, rfl⟩
  try simp only [ed] at c1 c2 c3 c4 c5 c6 c7 c8 c9 hm hd hsz ⊢
  obtain ⟨s, es⟩ : ∃ v, ratB q = v := ⟨_, rfl⟩
  try simp only [es] at c1 c2 c3 c4 c5 c6 c7 c8 c9 hm hd hsz ⊢
  obtain ⟨x, ex⟩ : ∃ v, q.num = v := ⟨_, rfl⟩
  try simp only [ex] at c1 c2 c3 c4 c5 c6 c7 c8 c9 hm hd hsz ⊢
  obtain ⟨y, ey⟩ : ∃ v, (q.den : Int) = v := ⟨_, rfl⟩
  try simp only [ey] at c1 c2 c3 c4 c5 c6 c7 c8 c9 hm hd hsz ⊢
  have C1 := Lib.hid c1
  have C2 := Lib.hid c2
  have C3 := Lib.hid c3
  have C4 := Lib.hid c4
  have C5 := Lib.hid c5
  have C6 := Lib.hid c6
  have C7 := Lib.hid c7
  have C8 := Lib.hid c8
  have C9 := Lib.hid c9
  clear c1 c2 c3 c4 c5 c6 c7 c8 c9 en em ed es ex ey hr hq hs
  have hb := Below.refl w.heap.size w
  go_enter Tryz.func3, Tryz.ntmps3
  go_wp2_with (first | (go_at_call 13; ((with_reducible refine (chain hb (C1.out _ (R.below hb))).mono ?_); clear hb; rintro e w1 ⟨rfl, hb⟩)) | (go_at_call 14; ((with_reducible refine (chain hb (C2.out _ (R.below hb))).mono ?_); clear hb; rintro e w1 ⟨rfl, hb⟩)) | (go_at_call 15; ((with_reducible refine (chain hb (C3.out _ (R.below hb))).mono ?_); clear hb; rintro e w1 ⟨rfl, hb⟩)) | (go_at_call 16; ((with_reducible refine (chain hb (C4.out _ (R.below hb))).mono ?_); clear hb; rintro e w1 ⟨rfl, hb⟩)) | (go_at_call 17; ((with_reducible refine (chain hb (C5.out _ (R.below hb))).mono ?_); clear hb; rintro e w1 ⟨rfl, hb⟩)) | (go_at_call 18; ((with_reducible refine (chain hb (C6.out _ (R.below hb))).mono ?_); clear hb; rintro e w1 ⟨rfl, hb⟩)) | (go_at_call 19; ((with_reducible refine (chain hb (C7.out _ (R.below hb))).mono ?_); clear hb; rintro e w1 ⟨rfl, hb⟩)) | (go_at_call 20; first | ((with_reducible refine (chain hb (C8.out _ (R.below hb))).mono ?_); clear hb; rintro e w1 ⟨rfl, hb⟩) | ((with_reducible refine (chain hb (C9.out _ (R.below hb))).mono ?_); clear hb; rintro e w1 ⟨rfl, hb⟩)))
  go_ret
  exact ⟨rfl, hb⟩
set_option maxRecDepth 100000 in
set_option maxHeartbeats 4000000 in
theorem lawChecks_ln (q : Rat) (hs : (ratB q).size ≤ 410) (hq : RL q 200) (h : ¬ shortQ q) (hn : 1000000000000000000 ≤ q.num.natAbs) (w : World) (R : EnvR w) :
    Calls Tryz.prog 3 #[.string (ratB q)] w fun e w' => e = .returned (.bool true) ∧ Below w.heap.size w w' := by
  have hr : IsRat (ratB q).data.toList := ⟨q, rfl, hq⟩
  have c1 : ∀ w, EnvR w → Calls Tryz.prog 13 #[] w fun e w' => e = .returned (.bool true) ∧ Below w.heap.size w w' := fun w R => known2_any w R
  have c2 : ∀ w, EnvR w → Calls Tryz.prog 14 #[.string (ratB q)] w fun e w' => e = .returned (.bool true) ∧ Below w.heap.size w w' := fun w R => refRRight_any _ true ⟨fun _ => hr, fun _ => rfl⟩ (by omega) w R
  have c3 : ∀ w, EnvR w → Calls Tryz.prog 15 #[.string (ratB q)] w fun e w' => e = .returned (.int .i64 0) ∧ Below w.heap.size w w' := fun w R => rcheck_any _ 0 (.inl ⟨hr, rfl⟩) (by omega) w R
  have c4 : ∀ w, EnvR w → Calls Tryz.prog 16 #[.string (ratB q)] w fun e w' => e = .returned (.tuple #[.string (itoaB q.num), .string (itoaB (q.den : Int))]) ∧ Below w.heap.size w w' := fun w R => refParts_any q w R (hq.mono (by decide))
  have c5 : ∀ w, EnvR w → Calls Tryz.prog 17 #[.string (ratB q)] w fun e w' => e = .returned (.tuple #[.string (itoaB q.num), .string (itoaB (q.den : Int))]) ∧ Below w.heap.size w w' := fun w R => rparts_any q w R (hq.mono (by decide))
  have c6 : ∀ w, EnvR w → Calls Tryz.prog 18 #[.string (ratB q)] w fun e w' => e = .returned (.tuple #[.int .i64 0, .int .i64 0, .bool false]) ∧ Below w.heap.size w w' := fun w R => rsmall_no q h w R (hq.mono (by decide))
  have c7 : ∀ w, EnvR w → Calls Tryz.prog 19 #[.string (itoaB q.num), .string ⟨#[45]⟩] w fun e w' => e = .returned (.string (itoaB (q.num.natAbs : Int))) ∧ Below w.heap.size w w' := fun w R => trim_itoa q.num w
  have hm : 18 < (itoaB (q.num.natAbs : Int)).size := by rw [nat_size]; have := mt (short_iff (q.num.natAbs : Int)).1 (by omega); omega
  have hsz : (ratB q).size ≤ 410 := hs
  obtain ⟨n, en⟩ : ∃ v, itoaB q.num = v := ⟨_, rfl⟩
  try simp only [en] at c1 c2 c3 c4 c5 c6 c7 hm hsz ⊢
  obtain ⟨m, em⟩ : ∃ v, itoaB (q.num.natAbs : Int) = v := ⟨_, rfl⟩
  try simp only [em] at c1 c2 c3 c4 c5 c6 c7 hm hsz ⊢
  obtain ⟨d, ed⟩ : ∃ v, itoaB (q.den : Int) = v := ⟨_, rfl⟩
  try simp only [ed] at c1 c2 c3 c4 c5 c6 c7 hm hsz ⊢
  obtain ⟨s, es⟩ : ∃ v, ratB q = v := ⟨_, rfl⟩
  try simp only [es] at c1 c2 c3 c4 c5 c6 c7 hm hsz ⊢
  have C1 := Lib.hid c1
  have C2 := Lib.hid c2
  have C3 := Lib.hid c3
  have C4 := Lib.hid c4
  have C5 := Lib.hid c5
  have C6 := Lib.hid c6
  have C7 := Lib.hid c7
  clear c1 c2 c3 c4 c5 c6 c7 en em ed es hr hq hs
  have hb := Below.refl w.heap.size w
  go_enter Tryz.func3, Tryz.ntmps3
  go_wp2_with (first | (go_at_call 13; ((with_reducible refine (chain hb (C1.out _ (R.below hb))).mono ?_); clear hb; rintro e w1 ⟨rfl, hb⟩)) | (go_at_call 14; ((with_reducible refine (chain hb (C2.out _ (R.below hb))).mono ?_); clear hb; rintro e w1 ⟨rfl, hb⟩)) | (go_at_call 15; ((with_reducible refine (chain hb (C3.out _ (R.below hb))).mono ?_); clear hb; rintro e w1 ⟨rfl, hb⟩)) | (go_at_call 16; ((with_reducible refine (chain hb (C4.out _ (R.below hb))).mono ?_); clear hb; rintro e w1 ⟨rfl, hb⟩)) | (go_at_call 17; ((with_reducible refine (chain hb (C5.out _ (R.below hb))).mono ?_); clear hb; rintro e w1 ⟨rfl, hb⟩)) | (go_at_call 18; ((with_reducible refine (chain hb (C6.out _ (R.below hb))).mono ?_); clear hb; rintro e w1 ⟨rfl, hb⟩)) | (go_at_call 19; ((with_reducible refine (chain hb (C7.out _ (R.below hb))).mono ?_); clear hb; rintro e w1 ⟨rfl, hb⟩)))
  go_ret
  exact ⟨rfl, hb⟩
set_option maxRecDepth 100000 in
set_option maxHeartbeats 4000000 in
theorem lawChecks_ld (q : Rat) (hs : (ratB q).size ≤ 410) (hq : RL q 200) (h : ¬ shortQ q) (hn : q.num.natAbs < 1000000000000000000) (hd : 1000000000000000000 ≤ q.den) (w : World) (R : EnvR w) :
    Calls Tryz.prog 3 #[.string (ratB q)] w fun e w' => e = .returned (.bool true) ∧ Below w.heap.size w w' := by
  have hr : IsRat (ratB q).data.toList := ⟨q, rfl, hq⟩
  have c1 : ∀ w, EnvR w → Calls Tryz.prog 13 #[] w fun e w' => e = .returned (.bool true) ∧ Below w.heap.size w w' := fun w R => known2_any w R
  have c2 : ∀ w, EnvR w → Calls Tryz.prog 14 #[.string (ratB q)] w fun e w' => e = .returned (.bool true) ∧ Below w.heap.size w w' := fun w R => refRRight_any _ true ⟨fun _ => hr, fun _ => rfl⟩ (by omega) w R
  have c3 : ∀ w, EnvR w → Calls Tryz.prog 15 #[.string (ratB q)] w fun e w' => e = .returned (.int .i64 0) ∧ Below w.heap.size w w' := fun w R => rcheck_any _ 0 (.inl ⟨hr, rfl⟩) (by omega) w R
  have c4 : ∀ w, EnvR w → Calls Tryz.prog 16 #[.string (ratB q)] w fun e w' => e = .returned (.tuple #[.string (itoaB q.num), .string (itoaB (q.den : Int))]) ∧ Below w.heap.size w w' := fun w R => refParts_any q w R (hq.mono (by decide))
  have c5 : ∀ w, EnvR w → Calls Tryz.prog 17 #[.string (ratB q)] w fun e w' => e = .returned (.tuple #[.string (itoaB q.num), .string (itoaB (q.den : Int))]) ∧ Below w.heap.size w w' := fun w R => rparts_any q w R (hq.mono (by decide))
  have c6 : ∀ w, EnvR w → Calls Tryz.prog 18 #[.string (ratB q)] w fun e w' => e = .returned (.tuple #[.int .i64 0, .int .i64 0, .bool false]) ∧ Below w.heap.size w w' := fun w R => rsmall_no q h w R (hq.mono (by decide))
  have c7 : ∀ w, EnvR w → Calls Tryz.prog 19 #[.string (itoaB q.num), .string ⟨#[45]⟩] w fun e w' => e = .returned (.string (itoaB (q.num.natAbs : Int))) ∧ Below w.heap.size w w' := fun w R => trim_itoa q.num w
  have hm : (itoaB (q.num.natAbs : Int)).size ≤ 18 := by rw [nat_size]; exact (short_iff (q.num.natAbs : Int)).2 (by omega)
  have hd' : 18 < (itoaB (q.den : Int)).size := by rw [nat_size]; have := mt (short_iff (q.den : Int)).1 (by omega); omega
  have hsz : (ratB q).size ≤ 410 := hs
  obtain ⟨n, en⟩ : ∃ v, itoaB q.num = v := ⟨_, rfl⟩
  try simp only [en] at c1 c2 c3 c4 c5 c6 c7 hm hd' hsz ⊢
  obtain ⟨m, em⟩ : ∃ v, itoaB (q.num.natAbs : Int) = v := ⟨_, rfl⟩
  try simp only [em] at c1 c2 c3 c4 c5 c6 c7 hm hd' hsz ⊢
  obtain ⟨d, ed⟩ : ∃ v, itoaB (q.den : Int) = v := ⟨_, rfl⟩
  try simp only [ed] at c1 c2 c3 c4 c5 c6 c7 hm hd' hsz ⊢
  obtain ⟨s, es⟩ : ∃ v, ratB q = v := ⟨_, rfl⟩
  try simp only [es] at c1 c2 c3 c4 c5 c6 c7 hm hd' hsz ⊢
  have C1 := Lib.hid c1
  have C2 := Lib.hid c2
  have C3 := Lib.hid c3
  have C4 := Lib.hid c4
  have C5 := Lib.hid c5
  have C6 := Lib.hid c6
  have C7 := Lib.hid c7
  clear c1 c2 c3 c4 c5 c6 c7 en em ed es hr hq hs
  have hb := Below.refl w.heap.size w
  go_enter Tryz.func3, Tryz.ntmps3
  go_wp2_with (first | (go_at_call 13; ((with_reducible refine (chain hb (C1.out _ (R.below hb))).mono ?_); clear hb; rintro e w1 ⟨rfl, hb⟩)) | (go_at_call 14; ((with_reducible refine (chain hb (C2.out _ (R.below hb))).mono ?_); clear hb; rintro e w1 ⟨rfl, hb⟩)) | (go_at_call 15; ((with_reducible refine (chain hb (C3.out _ (R.below hb))).mono ?_); clear hb; rintro e w1 ⟨rfl, hb⟩)) | (go_at_call 16; ((with_reducible refine (chain hb (C4.out _ (R.below hb))).mono ?_); clear hb; rintro e w1 ⟨rfl, hb⟩)) | (go_at_call 17; ((with_reducible refine (chain hb (C5.out _ (R.below hb))).mono ?_); clear hb; rintro e w1 ⟨rfl, hb⟩)) | (go_at_call 18; ((with_reducible refine (chain hb (C6.out _ (R.below hb))).mono ?_); clear hb; rintro e w1 ⟨rfl, hb⟩)) | (go_at_call 19; ((with_reducible refine (chain hb (C7.out _ (R.below hb))).mono ?_); clear hb; rintro e w1 ⟨rfl, hb⟩)))
  go_ret
  exact ⟨rfl, hb⟩
theorem lawChecks (s : ByteArray) (w : World) (R : EnvR w) (hs : s.size ≤ maxLen) :
    Calls Tryz.prog 3 #[.string s] w fun e w' => e = .returned (.bool true) ∧ Below w.heap.size w w' := by
  by_cases h1 : 410 < s.size
  · exact lawChecks_long s h1 (by unfold maxLen at hs; omega) w R
  · by_cases h2 : IsRat s.data.toList
    · obtain ⟨q, e, hq⟩ := h2
      obtain rfl : s = ratB q := dat_inj e
      by_cases h3 : shortQ q
      · exact lawChecks_short q (by omega) hq h3 w R
      · by_cases h4 : 1000000000000000000 ≤ q.num.natAbs
        · exact lawChecks_ln q (by omega) hq h3 h4 w R
        · exact lawChecks_ld q (by omega) hq h3 (by omega) (by unfold shortQ at h3; omega) w R
    · exact lawChecks_not s (by omega) h2 w R
end Go.Proofs.YtgllflfifbacnaaGreatDoor.Kl
