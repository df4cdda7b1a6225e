/- The walk of klippelaw02.RationalParses: true, whatever the text and the number of zeros. -/
import Derived.Test.YtgllflfifbacnaaGreatDoorKlRatM
import Derived.Test.YtgllflfifbacnaaGreatDoorKlRatI
import Derived.Test.YtgllflfifbacnaaGreatDoorKlRatK
import Derived.Test.YtgllflfifbacnaaGreatDoorKlRatV
import Derived.Test.YtgllflfifbacnaaGreatDoorKlKnown2
namespace Go.Proofs.YtgllflfifbacnaaGreatDoor.Kl
open Go Go.RowKit

set_option maxRecDepth 100000 in
set_option maxHeartbeats 2000000 in
theorem lawParses_long (s : ByteArray) (z : Int) (hs : 80 < s.size) (hm : s.size ≤ 9223372036854775807) (w : World) (R : EnvR w) :
    Calls Tryz.prog 5 #[.string s, .int .u8 z] w fun e w' => e = .returned (.bool true) ∧ Below w.heap.size w w' := by
  have c1 : ∀ w, EnvR w → Calls Tryz.prog 13 #[] w fun e w' => e = .returned (.bool true) ∧ Below w.heap.size w w' := fun w R => known2_any w R
  have C1 := Lib.hid c1
  clear c1
  have hb := Below.refl w.heap.size w
  go_enter Tryz.func5, Tryz.ntmps5
  go_wp2_with (go_at_call 13; ((with_reducible refine (chain hb (C1.out _ (R.below hb))).mono ?_); clear hb; rintro e w1 ⟨rfl, hb⟩))
  go_ret
  exact ⟨rfl, hb⟩
set_option maxRecDepth 100000 in
set_option maxHeartbeats 4000000 in
theorem lawParses_not (s : ByteArray) (n : Nat) (hn : n ≤ 255) (hs : s.size ≤ 80) (hr : ¬ IsRat s.data.toList) (w : World) (R : EnvR w) :
    Calls Tryz.prog 5 #[.string s, .int .u8 (n : Int)] w fun e w' => e = .returned (.bool true) ∧ Below w.heap.size w w' := by
  have hcat : (s ++ strOf (List.replicate (n % 201) 48)).size ≤ 300 := by rw [ByteArray.size_append, strOf_size, List.length_replicate]; omega
  have c1 : ∀ w, EnvR w → Calls Tryz.prog 13 #[] w fun e w' => e = .returned (.bool true) ∧ Below w.heap.size w w' := fun w R => known2_any w R
  have c2 : ∀ w, EnvR w → Calls Tryz.prog 27 #[.string ⟨#[48]⟩, .int .i64 ((n % 201 : Nat) : Int)] w fun e w' => e = .returned (.string (strOf (List.replicate (n % 201) 48))) ∧ Below w.heap.size w w' := fun w R => repeat_call (n % 201) (by omega) w
  have c3 : ∀ w, EnvR w → Calls Tryz.prog 28 #[.string (s ++ strOf (List.replicate (n % 201) 48))] w fun e w' => e = .returned (.tuple #[.string (strOf (parseQ (s ++ strOf (List.replicate (n % 201) 48)).data.toList).1), .int .i64 (parseQ (s ++ strOf (List.replicate (n % 201) 48)).data.toList).2]) ∧ Below w.heap.size w w' := fun w R => rparse_any _ (Nat.le_trans hcat (by decide)) w R
  have c4 : ∀ w, EnvR w → Calls Tryz.prog 29 #[.string (s ++ strOf (List.replicate (n % 201) 48))] w fun e w' => e = .returned (.tuple #[.string (strOf (parseQ (s ++ strOf (List.replicate (n % 201) 48)).data.toList).1), .int .i64 (parseQ (s ++ strOf (List.replicate (n % 201) 48)).data.toList).2]) ∧ Below w.heap.size w w' := fun w R => refParse2_any _ (Nat.le_trans hcat (by decide)) w R
  have c5 : ∀ w, EnvR w → Calls Tryz.prog 14 #[.string s] w fun e w' => e = .returned (.bool false) ∧ Below w.heap.size w w' := fun w R => refRRight_any s false ⟨fun h => (by cases h), fun h => absurd h hr⟩ (by omega) w R
  have hmod : ((n : Int).tmod 201) = ((n % 201 : Nat) : Int) := by rw [Int.tmod_eq_emod_of_nonneg (by omega)]; rfl
  have hmod2 : (n : Int) % 201 = ((n % 201 : Nat) : Int) := rfl
  have hz : (strOf (List.replicate (n % 201) 48)).size ≤ 200 := by rw [strOf_size, List.length_replicate]; omega
  have hss : s.size ≤ 80 := hs
  obtain ⟨x, ex⟩ : ∃ v, strOf (parseQ (s ++ strOf (List.replicate (n % 201) 48)).data.toList).1 = v := ⟨_, rfl⟩
  try simp only [ex] at c1 c2 c3 c4 c5 hmod hmod2 hz hss ⊢
  obtain ⟨ee, eee⟩ : ∃ v, (parseQ (s ++ strOf (List.replicate (n % 201) 48)).data.toList).2 = v := ⟨_, rfl⟩
  try simp only [eee] at c1 c2 c3 c4 c5 hmod hmod2 hz hss ⊢
  obtain ⟨zz, ezz⟩ : ∃ v, strOf (List.replicate (n % 201) 48) = v := ⟨_, rfl⟩
  try simp only [ezz] at c1 c2 c3 c4 c5 hmod hmod2 hz hss ⊢
  obtain ⟨nn, enn⟩ : ∃ v, ((n % 201 : Nat) : Int) = v := ⟨_, rfl⟩
  try simp only [enn] at c1 c2 c3 c4 c5 hmod hmod2 hz hss ⊢
  have C1 := Lib.hid c1
  have C2 := Lib.hid c2
  have C3 := Lib.hid c3
  have C4 := Lib.hid c4
  have C5 := Lib.hid c5
  clear c1 c2 c3 c4 c5 ex eee ezz enn hcat hr hs
  have hb := Below.refl w.heap.size w
  go_enter Tryz.func5, Tryz.ntmps5
  go_wp2_with (first | (go_at_call 13; ((with_reducible refine (chain hb (C1.out _ (R.below hb))).mono ?_); clear hb; rintro e w1 ⟨rfl, hb⟩)) | (go_at_call 27; ((with_reducible refine (chain hb (C2.out _ (R.below hb))).mono ?_); clear hb; rintro e w1 ⟨rfl, hb⟩)) | (go_at_call 28; ((with_reducible refine (chain hb (C3.out _ (R.below hb))).mono ?_); clear hb; rintro e w1 ⟨rfl, hb⟩)) | (go_at_call 29; ((with_reducible refine (chain hb (C4.out _ (R.below hb))).mono ?_); clear hb; rintro e w1 ⟨rfl, hb⟩)) | (go_at_call 14; ((with_reducible refine (chain hb (C5.out _ (R.below hb))).mono ?_); clear hb; rintro e w1 ⟨rfl, hb⟩)))
  go_ret
  exact ⟨rfl, hb⟩
set_option maxRecDepth 100000 in
set_option maxHeartbeats 4000000 in
theorem lawParses_in (q : Rat) (n : Nat) (hn : n ≤ 255) (hs : (ratB q).size ≤ 80) (hq : RL q 80) (hr : IsRat (ratB q).data.toList) (w : World) (R : EnvR w) :
    Calls Tryz.prog 5 #[.string (ratB q), .int .u8 (n : Int)] w fun e w' => e = .returned (.bool true) ∧ Below w.heap.size w w' := by
  have hcat : ((ratB q) ++ strOf (List.replicate (n % 201) 48)).size ≤ 300 := by rw [ByteArray.size_append, strOf_size, List.length_replicate]; omega
  have c1 : ∀ w, EnvR w → Calls Tryz.prog 13 #[] w fun e w' => e = .returned (.bool true) ∧ Below w.heap.size w w' := fun w R => known2_any w R
  have c2 : ∀ w, EnvR w → Calls Tryz.prog 27 #[.string ⟨#[48]⟩, .int .i64 ((n % 201 : Nat) : Int)] w fun e w' => e = .returned (.string (strOf (List.replicate (n % 201) 48))) ∧ Below w.heap.size w w' := fun w R => repeat_call (n % 201) (by omega) w
  have c3 : ∀ w, EnvR w → Calls Tryz.prog 28 #[.string ((ratB q) ++ strOf (List.replicate (n % 201) 48))] w fun e w' => e = .returned (.tuple #[.string (strOf (parseQ ((ratB q) ++ strOf (List.replicate (n % 201) 48)).data.toList).1), .int .i64 (parseQ ((ratB q) ++ strOf (List.replicate (n % 201) 48)).data.toList).2]) ∧ Below w.heap.size w w' := fun w R => rparse_any _ (Nat.le_trans hcat (by decide)) w R
  have c4 : ∀ w, EnvR w → Calls Tryz.prog 29 #[.string ((ratB q) ++ strOf (List.replicate (n % 201) 48))] w fun e w' => e = .returned (.tuple #[.string (strOf (parseQ ((ratB q) ++ strOf (List.replicate (n % 201) 48)).data.toList).1), .int .i64 (parseQ ((ratB q) ++ strOf (List.replicate (n % 201) 48)).data.toList).2]) ∧ Below w.heap.size w w' := fun w R => refParse2_any _ (Nat.le_trans hcat (by decide)) w R
  have c5 : ∀ w, EnvR w → Calls Tryz.prog 14 #[.string (ratB q)] w fun e w' => e = .returned (.bool true) ∧ Below w.heap.size w w' := fun w R => refRRight_any _ true ⟨fun _ => hr, fun _ => rfl⟩ (by omega) w R
  have c6 : ∀ w, EnvR w → Calls Tryz.prog 28 #[.string (ratB q)] w fun e w' => e = .returned (.tuple #[.string (ratB q), .int .i64 0]) ∧ Below w.heap.size w w' := fun w R => by have := rparse_any (ratB q) (by omega) w R; rwa [show parseQ (ratB q).data.toList = (ratS q, 0) from parseQ_rat q (by omega) (hq.mono (by decide))] at this
  have hmod : ((n : Int).tmod 201) = ((n % 201 : Nat) : Int) := by rw [Int.tmod_eq_emod_of_nonneg (by omega)]; rfl
  have hmod2 : (n : Int) % 201 = ((n % 201 : Nat) : Int) := rfl
  have hz : (strOf (List.replicate (n % 201) 48)).size ≤ 200 := by rw [strOf_size, List.length_replicate]; omega
  have hss : (ratB q).size ≤ 80 := hs
  obtain ⟨x, ex⟩ : ∃ v, strOf (parseQ ((ratB q) ++ strOf (List.replicate (n % 201) 48)).data.toList).1 = v := ⟨_, rfl⟩
  try simp only [ex] at c1 c2 c3 c4 c5 c6 hmod hmod2 hz hss ⊢
  obtain ⟨ee, eee⟩ : ∃ v, (parseQ ((ratB q) ++ strOf (List.replicate (n % 201) 48)).data.toList).2 = v := ⟨_, rfl⟩
  try simp only [eee] at c1 c2 c3 c4 c5 c6 hmod hmod2 hz hss ⊢
  obtain ⟨zz, ezz⟩ : ∃ v, strOf (List.replicate (n % 201) 48) = v := ⟨_, rfl⟩
  try simp only [ezz] at c1 c2 c3 c4 c5 c6 hmod hmod2 hz hss ⊢
  obtain ⟨nn, enn⟩ : ∃ v, ((n % 201 : Nat) : Int) = v := ⟨_, rfl⟩
  try simp only [enn] at c1 c2 c3 c4 c5 c6 hmod hmod2 hz hss ⊢
  obtain ⟨s, es⟩ : ∃ v, ratB q = v := ⟨_, rfl⟩
  try simp only [es] at c1 c2 c3 c4 c5 c6 hmod hmod2 hz hss ⊢
  have C1 := Lib.hid c1
  have C2 := Lib.hid c2
  have C3 := Lib.hid c3
  have C4 := Lib.hid c4
  have C5 := Lib.hid c5
  have C6 := Lib.hid c6
  clear c1 c2 c3 c4 c5 c6 ex eee ezz enn es hcat hr hs hq
  have hb := Below.refl w.heap.size w
  go_enter Tryz.func5, Tryz.ntmps5
  go_wp2_with (first | (go_at_call 13; ((with_reducible refine (chain hb (C1.out _ (R.below hb))).mono ?_); clear hb; rintro e w1 ⟨rfl, hb⟩)) | (go_at_call 27; ((with_reducible refine (chain hb (C2.out _ (R.below hb))).mono ?_); clear hb; rintro e w1 ⟨rfl, hb⟩)) | (go_at_call 28; first | ((with_reducible refine (chain hb (C3.out _ (R.below hb))).mono ?_); clear hb; rintro e w1 ⟨rfl, hb⟩) | ((with_reducible refine (chain hb (C6.out _ (R.below hb))).mono ?_); clear hb; rintro e w1 ⟨rfl, hb⟩)) | (go_at_call 29; ((with_reducible refine (chain hb (C4.out _ (R.below hb))).mono ?_); clear hb; rintro e w1 ⟨rfl, hb⟩)) | (go_at_call 14; ((with_reducible refine (chain hb (C5.out _ (R.below hb))).mono ?_); clear hb; rintro e w1 ⟨rfl, hb⟩)))
  go_ret
  exact ⟨rfl, hb⟩
theorem lawParses (s : ByteArray) (z : Int) (hz0 : 0 ≤ z) (hz1 : z ≤ 255) (w : World) (R : EnvR w) (hs : s.size ≤ maxLen) :
    Calls Tryz.prog 5 #[.string s, .int .u8 z] w fun e w' => e = .returned (.bool true) ∧ Below w.heap.size w w' := by
  by_cases h1 : 80 < s.size
  · exact lawParses_long s z h1 (by unfold maxLen at hs; omega) w R
  · obtain ⟨n, rfl⟩ := Int.eq_ofNat_of_zero_le hz0
    by_cases h2 : IsRat s.data.toList
    · obtain ⟨q, rfl, hq⟩ := fit_rat (t := s) ⟨by omega, h2⟩
      exact lawParses_in q n (by omega) (by omega) hq h2 w R
    · exact lawParses_not s n (by omega) (by omega) h2 w R
end Go.Proofs.YtgllflfifbacnaaGreatDoor.Kl
