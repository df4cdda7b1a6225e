/- Contracts: the reference's fractions of ints, and its rounding to a grid. -/
import Derived.Test.YtgllflfifbacnaaGreatDoorKlRatV
import Derived.Test.YtgllflfifbacnaaGreatDoorKlRatF
namespace Go.Proofs.YtgllflfifbacnaaGreatDoor.Kl
open Go Go.RowKit

set_option maxRecDepth 100000 in
set_option maxHeartbeats 200000 in
theorem refROf_any (n d : Int) (hn0 : -9223372036854775808 ≤ n) (hn1 : n ≤ 9223372036854775807) (hd0 : -9223372036854775808 ≤ d) (hd1 : d ≤ 9223372036854775807) (hd : d ≠ 0) (w : World) (R : EnvR w) :
    Calls Tryz.prog 25 #[.int .i64 n, .int .i64 d] w fun e w' => e = .returned (.string (ratB (Rat.divInt n d))) ∧ Below w.heap.size w w' := by
  have c1 : ∀ w, EnvR w → Calls Tryz.prog 20 #[.int .i64 n] w fun e w' => e = .returned (.string (itoaB n)) ∧ Below w.heap.size w w' := fun w R => refOf_any n hn0 hn1 w R.env
  have c2 : ∀ w, EnvR w → Calls Tryz.prog 20 #[.int .i64 d] w fun e w' => e = .returned (.string (itoaB d)) ∧ Below w.heap.size w w' := fun w R => refOf_any d hd0 hd1 w R.env
  have c3 : ∀ w, EnvR w → Calls Tryz.prog 26 #[.string (itoaB n), .string (itoaB d)] w fun e w' => e = .returned (.string (ratB (Rat.divInt n d))) ∧ Below w.heap.size w w' := fun w R => refFrac_any n d w R (Nat.le_trans (dlen_int n hn0 hn1) (by decide)) (Nat.le_trans (dlen_int d hd0 hd1) (by decide)) hd
  obtain ⟨r, er⟩ : ∃ v, ratB (Rat.divInt n d) = v := ⟨_, rfl⟩
  try simp only [er] at c1 c2 c3 ⊢
  obtain ⟨a, ea⟩ : ∃ v, itoaB n = v := ⟨_, rfl⟩
  try simp only [ea] at c1 c2 c3 ⊢
  obtain ⟨b, eb⟩ : ∃ v, itoaB d = v := ⟨_, rfl⟩
  try simp only [eb] at c1 c2 c3 ⊢
  have C1 := Lib.hid c1
  have C2 := Lib.hid c2
  have C3 := Lib.hid c3
  clear c1 c2 c3 er ea eb hd
  have hb := Below.refl w.heap.size w
  go_enter Tryz.func25, Tryz.ntmps25
  go_wp2_with (first | (go_at_call 20; first | ((with_reducible refine (chain hb (C1.out _ (R.below hb))).mono ?_); clear hb; rintro e w1 ⟨rfl, hb⟩) | ((with_reducible refine (chain hb (C2.out _ (R.below hb))).mono ?_); clear hb; rintro e w1 ⟨rfl, hb⟩)) | (go_at_call 26; ((with_reducible refine (chain hb (C3.out _ (R.below hb))).mono ?_); clear hb; rintro e w1 ⟨rfl, hb⟩)))
  go_ret
  exact ⟨rfl, hb⟩
end Go.Proofs.YtgllflfifbacnaaGreatDoor.Kl
