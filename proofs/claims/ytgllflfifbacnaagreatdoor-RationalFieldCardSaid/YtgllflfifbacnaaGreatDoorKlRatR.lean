/- Contracts: the reference's fractions. -/
import Derived.Test.YtgllflfifbacnaaGreatDoorKlRatP
namespace Go.Proofs.YtgllflfifbacnaaGreatDoor.Kl
open Go Go.RowKit

set_option maxRecDepth 100000 in
set_option maxHeartbeats 200000 in
theorem refParts_int (s : ByteArray) (hc : ∀ w, Calls Tryz.prog 61 #[.string s, .int .u8 47] w fun e w' => e = .returned (.int .i64 (-1)) ∧ Below w.heap.size w w') (w : World) (R : EnvR w) :
    Calls Tryz.prog 16 #[.string s] w fun e w' => e = .returned (.tuple #[.string s, .string ⟨#[49]⟩]) ∧ Below w.heap.size w w' := by
  have c1 : ∀ w, EnvR w → Calls Tryz.prog 61 #[.string s, .int .u8 47] w fun e w' => e = .returned (.int .i64 (-1)) ∧ Below w.heap.size w w' := fun w R => hc w
  have C1 := Lib.hid c1
  clear c1 hc
  have hb := Below.refl w.heap.size w
  go_enter Tryz.func16, Tryz.ntmps16
  go_wp2_with (go_at_call 61; ((with_reducible refine (chain hb (C1.out _ (R.below hb))).mono ?_); clear hb; rintro e w1 ⟨rfl, hb⟩))
  go_ret2
  exact ⟨rfl, hb⟩
set_option maxRecDepth 100000 in
set_option maxHeartbeats 200000 in
theorem refParts_frac (s a b : ByteArray) (L : Nat) (hL : L < s.size) (hs : s.size ≤ 1000000) (h1 : s.extract 0 L = a) (h2 : s.extract (L + 1) s.size = b) (hc : ∀ w, Calls Tryz.prog 61 #[.string s, .int .u8 47] w fun e w' => e = .returned (.int .i64 (L : Int)) ∧ Below w.heap.size w w') (w : World) (R : EnvR w) :
    Calls Tryz.prog 16 #[.string s] w fun e w' => e = .returned (.tuple #[.string a, .string b]) ∧ Below w.heap.size w w' := by
  have c1 : ∀ w, EnvR w → Calls Tryz.prog 61 #[.string s, .int .u8 47] w fun e w' => e = .returned (.int .i64 (L : Int)) ∧ Below w.heap.size w w' := fun w R => hc w
  have C1 := Lib.hid c1
  clear c1 hc
  have H1 := Lib.hid h1
  have H2 := Lib.hid h2
  clear h1 h2
  have hb := Below.refl w.heap.size w
  go_enter Tryz.func16, Tryz.ntmps16
  go_wp2_with (go_at_call 61; ((with_reducible refine (chain hb (C1.out _ (R.below hb))).mono ?_); clear hb; rintro e w1 ⟨rfl, hb⟩))
  go_quiet (fail)
  go_wp2
  go_ret2
  exact ⟨retSS H1.out H2.out, Below.drews hb _⟩
set_option maxRecDepth 100000 in
set_option maxHeartbeats 200000 in
theorem frac_pa1 (n d : Int) (hn' : dlen n ≤ 2000) (hdl' : dlen d ≤ 2000) (hd' : 0 < d) (hs : 9 < (itoaB n).size) (h1 : ((itoaB (d / ((Nat.gcd n.natAbs d.natAbs : Nat) : Int))).toList == [49]) = true) (w : World) (R : EnvR w) :
    Calls Tryz.prog 26 #[.string (itoaB n), .string (itoaB d)] w fun e w' => e = .returned (.string (itoaB (n / ((Nat.gcd n.natAbs d.natAbs : Nat) : Int)))) ∧ Below w.heap.size w w' := by
  have hd := hd'
  have hn := hn'
  have hdl := hdl'
  have hcs := dlen_div n (Nat.gcd n.natAbs d.natAbs) 2000 (by decide) hn (gcd_dvd1 _ _)
  have hfs := dlen_div d (Nat.gcd n.natAbs d.natAbs) 2000 (by decide) hdl (gcd_dvd2 _ _)
  have zc := itoaB_size _ (Nat.le_trans hcs (by decide))
  have zf := itoaB_size _ (Nat.le_trans hfs (by decide))
  have c1 : ∀ w, EnvR w → Calls Tryz.prog 79 #[.string (itoaB d)] w fun e w' => e = .returned (.int .i64 1) ∧ Below w.heap.size w w' := fun w R => by have := refSign_any d w; rwa [Int.sign_eq_one_of_pos hd'] at this
  have c2 : ∀ w, EnvR w → Calls Tryz.prog 63 #[.string (itoaB n), .string (itoaB d)] w fun e w' => e = .returned (.string (itoaB ((Nat.gcd n.natAbs d.natAbs : Nat) : Int))) ∧ Below w.heap.size w w' := fun w R => refGcd_any _ _ w R.env hn hdl
  have c3 : ∀ w, EnvR w → Calls Tryz.prog 81 #[.string (itoaB n), .string (itoaB ((Nat.gcd n.natAbs d.natAbs : Nat) : Int))] w fun e w' => e = .returned (.tuple #[.string (itoaB (n / ((Nat.gcd n.natAbs d.natAbs : Nat) : Int))), .string (itoaB (n % ((Nat.gcd n.natAbs d.natAbs : Nat) : Int)))]) ∧ Below w.heap.size w w' := fun w R => refDivMod_any _ _ w R.env (Nat.le_trans hn (by decide)) (Nat.le_trans (dlen_gcd _ _ _ (by decide) hd hdl) (by decide)) (by have := gcd_pos_den (n := n) hd; omega)
  have c4 : ∀ w, EnvR w → Calls Tryz.prog 81 #[.string (itoaB d), .string (itoaB ((Nat.gcd n.natAbs d.natAbs : Nat) : Int))] w fun e w' => e = .returned (.tuple #[.string (itoaB (d / ((Nat.gcd n.natAbs d.natAbs : Nat) : Int))), .string (itoaB (d % ((Nat.gcd n.natAbs d.natAbs : Nat) : Int)))]) ∧ Below w.heap.size w w' := fun w R => refDivMod_any _ _ w R.env (Nat.le_trans hdl (by decide)) (Nat.le_trans (dlen_gcd _ _ _ (by decide) hd hdl) (by decide)) (by have := gcd_pos_den (n := n) hd; omega)
  have z1 : 9 < ((itoaB n).size : Int) := by omega
  have zc' : (itoaB (n / ((Nat.gcd n.natAbs d.natAbs : Nat) : Int))).size ≤ 100001 := zc
  have zf' : (itoaB (d / ((Nat.gcd n.natAbs d.natAbs : Nat) : Int))).size ≤ 100001 := zf
  have h1' : ((itoaB (d / ((Nat.gcd n.natAbs d.natAbs : Nat) : Int))).toList == [49]) = true := h1
  obtain ⟨c, ec⟩ : ∃ v, itoaB (n / ((Nat.gcd n.natAbs d.natAbs : Nat) : Int)) = v := ⟨_, rfl⟩
  try simp only [ec] at c1 c2 c3 c4 z1 zc' zf' h1' ⊢
  obtain ⟨f, ef⟩ : ∃ v, itoaB (d / ((Nat.gcd n.natAbs d.natAbs : Nat) : Int)) = v := ⟨_, rfl⟩
  try simp only [ef] at c1 c2 c3 c4 z1 zc' zf' h1' ⊢
  obtain ⟨c', ec'⟩ : ∃ v, itoaB (n % ((Nat.gcd n.natAbs d.natAbs : Nat) : Int)) = v := ⟨_, rfl⟩
  try simp only [ec'] at c1 c2 c3 c4 z1 zc' zf' h1' ⊢
  obtain ⟨f', ef'⟩ : ∃ v, itoaB (d % ((Nat.gcd n.natAbs d.natAbs : Nat) : Int)) = v := ⟨_, rfl⟩
  try simp only [ef'] at c1 c2 c3 c4 z1 zc' zf' h1' ⊢
  obtain ⟨g, eg⟩ : ∃ v, itoaB ((Nat.gcd n.natAbs d.natAbs : Nat) : Int) = v := ⟨_, rfl⟩
  try simp only [eg] at c1 c2 c3 c4 z1 zc' zf' h1' ⊢
  obtain ⟨a, ea⟩ : ∃ v, itoaB n = v := ⟨_, rfl⟩
  try simp only [ea] at c1 c2 c3 c4 z1 zc' zf' h1' ⊢
  obtain ⟨b, eb⟩ : ∃ v, itoaB d = v := ⟨_, rfl⟩
  try simp only [eb] at c1 c2 c3 c4 z1 zc' zf' h1' ⊢
  have C1 := Lib.hid c1
  have C2 := Lib.hid c2
  have C3 := Lib.hid c3
  have C4 := Lib.hid c4
  clear c1 c2 c3 c4 ec ef ec' ef' eg ea eb hn hdl hd hn' hdl' hd' hs h1 hcs hfs zc zf
  have hb := Below.refl w.heap.size w
  go_enter Tryz.func26, Tryz.ntmps26
  go_wp2_with (first | (go_at_call 79; ((with_reducible refine (chain hb (C1.out _ (R.below hb))).mono ?_); clear hb; rintro e w1 ⟨rfl, hb⟩)) | (go_at_call 63; ((with_reducible refine (chain hb (C2.out _ (R.below hb))).mono ?_); clear hb; rintro e w1 ⟨rfl, hb⟩)) | (go_at_call 81; first | ((with_reducible refine (chain hb (C3.out _ (R.below hb))).mono ?_); clear hb; rintro e w1 ⟨rfl, hb⟩) | ((with_reducible refine (chain hb (C4.out _ (R.below hb))).mono ?_); clear hb; rintro e w1 ⟨rfl, hb⟩)))
  go_ret
  exact ⟨rfl, hb⟩
set_option maxRecDepth 100000 in
set_option maxHeartbeats 200000 in
theorem frac_pa2 (n d : Int) (hn' : dlen n ≤ 2000) (hdl' : dlen d ≤ 2000) (hd' : 0 < d) (hs : 9 < (itoaB n).size) (h1 : ((itoaB (d / ((Nat.gcd n.natAbs d.natAbs : Nat) : Int))).toList == [49]) = false) (w : World) (R : EnvR w) :
    Calls Tryz.prog 26 #[.string (itoaB n), .string (itoaB d)] w fun e w' => e = .returned (.string (itoaB (n / ((Nat.gcd n.natAbs d.natAbs : Nat) : Int)) ++ ⟨#[47]⟩ ++ itoaB (d / ((Nat.gcd n.natAbs d.natAbs : Nat) : Int)))) ∧ Below w.heap.size w w' := by
  have hd := hd'
  have hn := hn'
  have hdl := hdl'
  have hcs := dlen_div n (Nat.gcd n.natAbs d.natAbs) 2000 (by decide) hn (gcd_dvd1 _ _)
  have hfs := dlen_div d (Nat.gcd n.natAbs d.natAbs) 2000 (by decide) hdl (gcd_dvd2 _ _)
  have zc := itoaB_size _ (Nat.le_trans hcs (by decide))
  have zf := itoaB_size _ (Nat.le_trans hfs (by decide))
  have c1 : ∀ w, EnvR w → Calls Tryz.prog 79 #[.string (itoaB d)] w fun e w' => e = .returned (.int .i64 1) ∧ Below w.heap.size w w' := fun w R => by have := refSign_any d w; rwa [Int.sign_eq_one_of_pos hd'] at this
  have c2 : ∀ w, EnvR w → Calls Tryz.prog 63 #[.string (itoaB n), .string (itoaB d)] w fun e w' => e = .returned (.string (itoaB ((Nat.gcd n.natAbs d.natAbs : Nat) : Int))) ∧ Below w.heap.size w w' := fun w R => refGcd_any _ _ w R.env hn hdl
  have c3 : ∀ w, EnvR w → Calls Tryz.prog 81 #[.string (itoaB n), .string (itoaB ((Nat.gcd n.natAbs d.natAbs : Nat) : Int))] w fun e w' => e = .returned (.tuple #[.string (itoaB (n / ((Nat.gcd n.natAbs d.natAbs : Nat) : Int))), .string (itoaB (n % ((Nat.gcd n.natAbs d.natAbs : Nat) : Int)))]) ∧ Below w.heap.size w w' := fun w R => refDivMod_any _ _ w R.env (Nat.le_trans hn (by decide)) (Nat.le_trans (dlen_gcd _ _ _ (by decide) hd hdl) (by decide)) (by have := gcd_pos_den (n := n) hd; omega)
  have c4 : ∀ w, EnvR w → Calls Tryz.prog 81 #[.string (itoaB d), .string (itoaB ((Nat.gcd n.natAbs d.natAbs : Nat) : Int))] w fun e w' => e = .returned (.tuple #[.string (itoaB (d / ((Nat.gcd n.natAbs d.natAbs : Nat) : Int))), .string (itoaB (d % ((Nat.gcd n.natAbs d.natAbs : Nat) : Int)))]) ∧ Below w.heap.size w w' := fun w R => refDivMod_any _ _ w R.env (Nat.le_trans hdl (by decide)) (Nat.le_trans (dlen_gcd _ _ _ (by decide) hd hdl) (by decide)) (by have := gcd_pos_den (n := n) hd; omega)
  have z1 : 9 < ((itoaB n).size : Int) := by omega
  have zc' : (itoaB (n / ((Nat.gcd n.natAbs d.natAbs : Nat) : Int))).size ≤ 100001 := zc
  have zf' : (itoaB (d / ((Nat.gcd n.natAbs d.natAbs : Nat) : Int))).size ≤ 100001 := zf
  have h1' : ((itoaB (d / ((Nat.gcd n.natAbs d.natAbs : Nat) : Int))).toList == [49]) = false := h1
  obtain ⟨c, ec⟩ : ∃ v, itoaB (n / ((Nat.gcd n.natAbs d.natAbs : Nat) : Int)) = v := ⟨_, rfl⟩
  try simp only [ec] at c1 c2 c3 c4 z1 zc' zf' h1' ⊢
  obtain ⟨f, ef⟩ : ∃ v, itoaB (d / ((Nat.gcd n.natAbs d.natAbs : Nat) : Int)) = v := ⟨_, rfl⟩
  try simp only [ef] at c1 c2 c3 c4 z1 zc' zf' h1' ⊢
  obtain ⟨c', ec'⟩ : ∃ v, itoaB (n % ((Nat.gcd n.natAbs d.natAbs : Nat) : Int)) = v := ⟨_, rfl⟩
  try simp only [ec'] at c1 c2 c3 c4 z1 zc' zf' h1' ⊢
  obtain ⟨f', ef'⟩ : ∃ v, itoaB (d % ((Nat.gcd n.natAbs d.natAbs : Nat) : Int)) = v := ⟨_, rfl⟩
  try simp only [ef'] at c1 c2 c3 c4 z1 zc' zf' h1' ⊢
  obtain ⟨g, eg⟩ : ∃ v, itoaB ((Nat.gcd n.natAbs d.natAbs : Nat) : Int) = v := ⟨_, rfl⟩
  try simp only [eg] at c1 c2 c3 c4 z1 zc' zf' h1' ⊢
  obtain ⟨a, ea⟩ : ∃ v, itoaB n = v := ⟨_, rfl⟩
  try simp only [ea] at c1 c2 c3 c4 z1 zc' zf' h1' ⊢
  obtain ⟨b, eb⟩ : ∃ v, itoaB d = v := ⟨_, rfl⟩
  try simp only [eb] at c1 c2 c3 c4 z1 zc' zf' h1' ⊢
  have C1 := Lib.hid c1
  have C2 := Lib.hid c2
  have C3 := Lib.hid c3
  have C4 := Lib.hid c4
  clear c1 c2 c3 c4 ec ef ec' ef' eg ea eb hn hdl hd hn' hdl' hd' hs h1 hcs hfs zc zf
  have hb := Below.refl w.heap.size w
  go_enter Tryz.func26, Tryz.ntmps26
  go_wp2_with (first | (go_at_call 79; ((with_reducible refine (chain hb (C1.out _ (R.below hb))).mono ?_); clear hb; rintro e w1 ⟨rfl, hb⟩)) | (go_at_call 63; ((with_reducible refine (chain hb (C2.out _ (R.below hb))).mono ?_); clear hb; rintro e w1 ⟨rfl, hb⟩)) | (go_at_call 81; first | ((with_reducible refine (chain hb (C3.out _ (R.below hb))).mono ?_); clear hb; rintro e w1 ⟨rfl, hb⟩) | ((with_reducible refine (chain hb (C4.out _ (R.below hb))).mono ?_); clear hb; rintro e w1 ⟨rfl, hb⟩)))
  go_ret
  exact ⟨rfl, hb⟩
set_option maxRecDepth 100000 in
set_option maxHeartbeats 200000 in
theorem frac_pb1 (n d : Int) (hn' : dlen n ≤ 2000) (hdl' : dlen d ≤ 2000) (hd' : 0 < d) (hs : (itoaB n).size ≤ 9 ∧ 9 < (itoaB d).size) (h1 : ((itoaB (d / ((Nat.gcd n.natAbs d.natAbs : Nat) : Int))).toList == [49]) = true) (w : World) (R : EnvR w) :
    Calls Tryz.prog 26 #[.string (itoaB n), .string (itoaB d)] w fun e w' => e = .returned (.string (itoaB (n / ((Nat.gcd n.natAbs d.natAbs : Nat) : Int)))) ∧ Below w.heap.size w w' := by
  have hd := hd'
  have hn := hn'
  have hdl := hdl'
  have hcs := dlen_div n (Nat.gcd n.natAbs d.natAbs) 2000 (by decide) hn (gcd_dvd1 _ _)
  have hfs := dlen_div d (Nat.gcd n.natAbs d.natAbs) 2000 (by decide) hdl (gcd_dvd2 _ _)
  have zc := itoaB_size _ (Nat.le_trans hcs (by decide))
  have zf := itoaB_size _ (Nat.le_trans hfs (by decide))
  have c1 : ∀ w, EnvR w → Calls Tryz.prog 79 #[.string (itoaB d)] w fun e w' => e = .returned (.int .i64 1) ∧ Below w.heap.size w w' := fun w R => by have := refSign_any d w; rwa [Int.sign_eq_one_of_pos hd'] at this
  have c2 : ∀ w, EnvR w → Calls Tryz.prog 63 #[.string (itoaB n), .string (itoaB d)] w fun e w' => e = .returned (.string (itoaB ((Nat.gcd n.natAbs d.natAbs : Nat) : Int))) ∧ Below w.heap.size w w' := fun w R => refGcd_any _ _ w R.env hn hdl
  have c3 : ∀ w, EnvR w → Calls Tryz.prog 81 #[.string (itoaB n), .string (itoaB ((Nat.gcd n.natAbs d.natAbs : Nat) : Int))] w fun e w' => e = .returned (.tuple #[.string (itoaB (n / ((Nat.gcd n.natAbs d.natAbs : Nat) : Int))), .string (itoaB (n % ((Nat.gcd n.natAbs d.natAbs : Nat) : Int)))]) ∧ Below w.heap.size w w' := fun w R => refDivMod_any _ _ w R.env (Nat.le_trans hn (by decide)) (Nat.le_trans (dlen_gcd _ _ _ (by decide) hd hdl) (by decide)) (by have := gcd_pos_den (n := n) hd; omega)
  have c4 : ∀ w, EnvR w → Calls Tryz.prog 81 #[.string (itoaB d), .string (itoaB ((Nat.gcd n.natAbs d.natAbs : Nat) : Int))] w fun e w' => e = .returned (.tuple #[.string (itoaB (d / ((Nat.gcd n.natAbs d.natAbs : Nat) : Int))), .string (itoaB (d % ((Nat.gcd n.natAbs d.natAbs : Nat) : Int)))]) ∧ Below w.heap.size w w' := fun w R => refDivMod_any _ _ w R.env (Nat.le_trans hdl (by decide)) (Nat.le_trans (dlen_gcd _ _ _ (by decide) hd hdl) (by decide)) (by have := gcd_pos_den (n := n) hd; omega)
  have z1 : ((itoaB n).size : Int) ≤ 9 := by omega
  have z2 : 9 < ((itoaB d).size : Int) := by omega
  have zc' : (itoaB (n / ((Nat.gcd n.natAbs d.natAbs : Nat) : Int))).size ≤ 100001 := zc
  have zf' : (itoaB (d / ((Nat.gcd n.natAbs d.natAbs : Nat) : Int))).size ≤ 100001 := zf
  have h1' : ((itoaB (d / ((Nat.gcd n.natAbs d.natAbs : Nat) : Int))).toList == [49]) = true := h1
  obtain ⟨c, ec⟩ : ∃ v, itoaB (n / ((Nat.gcd n.natAbs d.natAbs : Nat) : Int)) = v := ⟨_, rfl⟩
  try simp only [ec] at c1 c2 c3 c4 z1 z2 zc' zf' h1' ⊢
  obtain ⟨f, ef⟩ : ∃ v, itoaB (d / ((Nat.gcd n.natAbs d.natAbs : Nat) : Int)) = v := ⟨_, rfl⟩
  try simp only [ef] at c1 c2 c3 c4 z1 z2 zc' zf' h1' ⊢
  obtain ⟨c', ec'⟩ : ∃ v, itoaB (n % ((Nat.gcd n.natAbs d.natAbs : Nat) : Int)) = v := ⟨_, rfl⟩
  try simp only [ec'] at c1 c2 c3 c4 z1 z2 zc' zf' h1' ⊢
  obtain ⟨f', ef'⟩ : ∃ v, itoaB (d % ((Nat.gcd n.natAbs d.natAbs : Nat) : Int)) = v := ⟨_, rfl⟩
  try simp only [ef'] at c1 c2 c3 c4 z1 z2 zc' zf' h1' ⊢
  obtain ⟨g, eg⟩ : ∃ v, itoaB ((Nat.gcd n.natAbs d.natAbs : Nat) : Int) = v := ⟨_, rfl⟩
  try simp only [eg] at c1 c2 c3 c4 z1 z2 zc' zf' h1' ⊢
  obtain ⟨a, ea⟩ : ∃ v, itoaB n = v := ⟨_, rfl⟩
  try simp only [ea] at c1 c2 c3 c4 z1 z2 zc' zf' h1' ⊢
  obtain ⟨b, eb⟩ : ∃ v, itoaB d = v := ⟨_, rfl⟩
  try simp only [eb] at c1 c2 c3 c4 z1 z2 zc' zf' h1' ⊢
  have C1 := Lib.hid c1
  have C2 := Lib.hid c2
  have C3 := Lib.hid c3
  have C4 := Lib.hid c4
  clear c1 c2 c3 c4 ec ef ec' ef' eg ea eb hn hdl hd hn' hdl' hd' hs h1 hcs hfs zc zf
  have hb := Below.refl w.heap.size w
  go_enter Tryz.func26, Tryz.ntmps26
  go_wp2_with (first | (go_at_call 79; ((with_reducible refine (chain hb (C1.out _ (R.below hb))).mono ?_); clear hb; rintro e w1 ⟨rfl, hb⟩)) | (go_at_call 63; ((with_reducible refine (chain hb (C2.out _ (R.below hb))).mono ?_); clear hb; rintro e w1 ⟨rfl, hb⟩)) | (go_at_call 81; first | ((with_reducible refine (chain hb (C3.out _ (R.below hb))).mono ?_); clear hb; rintro e w1 ⟨rfl, hb⟩) | ((with_reducible refine (chain hb (C4.out _ (R.below hb))).mono ?_); clear hb; rintro e w1 ⟨rfl, hb⟩)))
  go_ret
  exact ⟨rfl, hb⟩
set_option maxRecDepth 100000 in
set_option maxHeartbeats 200000 in
theorem frac_pb2 (n d : Int) (hn' : dlen n ≤ 2000) (hdl' : dlen d ≤ 2000) (hd' : 0 < d) (hs : (itoaB n).size ≤ 9 ∧ 9 < (itoaB d).size) (h1 : ((itoaB (d / ((Nat.gcd n.natAbs d.natAbs : Nat) : Int))).toList == [49]) = false) (w : World) (R : EnvR w) :
    Calls Tryz.prog 26 #[.string (itoaB n), .string (itoaB d)] w fun e w' => e = .returned (.string (itoaB (n / ((Nat.gcd n.natAbs d.natAbs : Nat) : Int)) ++ ⟨#[47]⟩ ++ itoaB (d / ((Nat.gcd n.natAbs d.natAbs : Nat) : Int)))) ∧ Below w.heap.size w w' := by
  have hd := hd'
  have hn := hn'
  have hdl := hdl'
  have hcs := dlen_div n (Nat.gcd n.natAbs d.natAbs) 2000 (by decide) hn (gcd_dvd1 _ _)
  have hfs := dlen_div d (Nat.gcd n.natAbs d.natAbs) 2000 (by decide) hdl (gcd_dvd2 _ _)
  have zc := itoaB_size _ (Nat.le_trans hcs (by decide))
  have zf := itoaB_size _ (Nat.le_trans hfs (by decide))
  have c1 : ∀ w, EnvR w → Calls Tryz.prog 79 #[.string (itoaB d)] w fun e w' => e = .returned (.int .i64 1) ∧ Below w.heap.size w w' := fun w R => by have := refSign_any d w; rwa [Int.sign_eq_one_of_pos hd'] at this
  have c2 : ∀ w, EnvR w → Calls Tryz.prog 63 #[.string (itoaB n), .string (itoaB d)] w fun e w' => e = .returned (.string (itoaB ((Nat.gcd n.natAbs d.natAbs : Nat) : Int))) ∧ Below w.heap.size w w' := fun w R => refGcd_any _ _ w R.env hn hdl
  have c3 : ∀ w, EnvR w → Calls Tryz.prog 81 #[.string (itoaB n), .string (itoaB ((Nat.gcd n.natAbs d.natAbs : Nat) : Int))] w fun e w' => e = .returned (.tuple #[.string (itoaB (n / ((Nat.gcd n.natAbs d.natAbs : Nat) : Int))), .string (itoaB (n % ((Nat.gcd n.natAbs d.natAbs : Nat) : Int)))]) ∧ Below w.heap.size w w' := fun w R => refDivMod_any _ _ w R.env (Nat.le_trans hn (by decide)) (Nat.le_trans (dlen_gcd _ _ _ (by decide) hd hdl) (by decide)) (by have := gcd_pos_den (n := n) hd; omega)
  have c4 : ∀ w, EnvR w → Calls Tryz.prog 81 #[.string (itoaB d), .string (itoaB ((Nat.gcd n.natAbs d.natAbs : Nat) : Int))] w fun e w' => e = .returned (.tuple #[.string (itoaB (d / ((Nat.gcd n.natAbs d.natAbs : Nat) : Int))), .string (itoaB (d % ((Nat.gcd n.natAbs d.natAbs : Nat) : Int)))]) ∧ Below w.heap.size w w' := fun w R => refDivMod_any _ _ w R.env (Nat.le_trans hdl (by decide)) (Nat.le_trans (dlen_gcd _ _ _ (by decide) hd hdl) (by decide)) (by have := gcd_pos_den (n := n) hd; omega)
  have z1 : ((itoaB n).size : Int) ≤ 9 := by omega
  have z2 : 9 < ((itoaB d).size : Int) := by omega
  have zc' : (itoaB (n / ((Nat.gcd n.natAbs d.natAbs : Nat) : Int))).size ≤ 100001 := zc
  have zf' : (itoaB (d / ((Nat.gcd n.natAbs d.natAbs : Nat) : Int))).size ≤ 100001 := zf
  have h1' : ((itoaB (d / ((Nat.gcd n.natAbs d.natAbs : Nat) : Int))).toList == [49]) = false := h1
  obtain ⟨c, ec⟩ : ∃ v, itoaB (n / ((Nat.gcd n.natAbs d.natAbs : Nat) : Int)) = v := ⟨_, rfl⟩
  try simp only [ec] at c1 c2 c3 c4 z1 z2 zc' zf' h1' ⊢
  obtain ⟨f, ef⟩ : ∃ v, itoaB (d / ((Nat.gcd n.natAbs d.natAbs : Nat) : Int)) = v := ⟨_, rfl⟩
  try simp only [ef] at c1 c2 c3 c4 z1 z2 zc' zf' h1' ⊢
  obtain ⟨c', ec'⟩ : ∃ v, itoaB (n % ((Nat.gcd n.natAbs d.natAbs : Nat) : Int)) = v := ⟨_, rfl⟩
  try simp only [ec'] at c1 c2 c3 c4 z1 z2 zc' zf' h1' ⊢
  obtain ⟨f', ef'⟩ : ∃ v, itoaB (d % ((Nat.gcd n.natAbs d.natAbs : Nat) : Int)) = v := ⟨_, rfl⟩
  try simp only [ef'] at c1 c2 c3 c4 z1 z2 zc' zf' h1' ⊢
  obtain ⟨g, eg⟩ : ∃ v, itoaB ((Nat.gcd n.natAbs d.natAbs : Nat) : Int) = v := ⟨_, rfl⟩
  try simp only [eg] at c1 c2 c3 c4 z1 z2 zc' zf' h1' ⊢
  obtain ⟨a, ea⟩ : ∃ v, itoaB n = v := ⟨_, rfl⟩
  try simp only [ea] at c1 c2 c3 c4 z1 z2 zc' zf' h1' ⊢
  obtain ⟨b, eb⟩ : ∃ v, itoaB d = v := ⟨_, rfl⟩
  try simp only [eb] at c1 c2 c3 c4 z1 z2 zc' zf' h1' ⊢
  have C1 := Lib.hid c1
  have C2 := Lib.hid c2
  have C3 := Lib.hid c3
  have C4 := Lib.hid c4
  clear c1 c2 c3 c4 ec ef ec' ef' eg ea eb hn hdl hd hn' hdl' hd' hs h1 hcs hfs zc zf
  have hb := Below.refl w.heap.size w
  go_enter Tryz.func26, Tryz.ntmps26
  go_wp2_with (first | (go_at_call 79; ((with_reducible refine (chain hb (C1.out _ (R.below hb))).mono ?_); clear hb; rintro e w1 ⟨rfl, hb⟩)) | (go_at_call 63; ((with_reducible refine (chain hb (C2.out _ (R.below hb))).mono ?_); clear hb; rintro e w1 ⟨rfl, hb⟩)) | (go_at_call 81; first | ((with_reducible refine (chain hb (C3.out _ (R.below hb))).mono ?_); clear hb; rintro e w1 ⟨rfl, hb⟩) | ((with_reducible refine (chain hb (C4.out _ (R.below hb))).mono ?_); clear hb; rintro e w1 ⟨rfl, hb⟩)))
  go_ret
  exact ⟨rfl, hb⟩
set_option maxRecDepth 100000 in
set_option maxHeartbeats 200000 in
theorem frac_ma1 (n d : Int) (hn' : dlen n ≤ 2000) (hdl' : dlen d ≤ 2000) (hd' : d < 0) (hs : 9 < (itoaB n).size) (h1 : ((itoaB ((-d) / ((Nat.gcd (-n).natAbs (-d).natAbs : Nat) : Int))).toList == [49]) = true) (w : World) (R : EnvR w) :
    Calls Tryz.prog 26 #[.string (itoaB n), .string (itoaB d)] w fun e w' => e = .returned (.string (itoaB ((-n) / ((Nat.gcd (-n).natAbs (-d).natAbs : Nat) : Int)))) ∧ Below w.heap.size w w' := by
  have hd : 0 < -d := by omega
  have hn : dlen (-n) ≤ 2000 := by rw [dlen_neg]; exact hn'
  have hdl : dlen (-d) ≤ 2000 := by rw [dlen_neg]; exact hdl'
  have hcs := dlen_div (-n) (Nat.gcd (-n).natAbs (-d).natAbs) 2000 (by decide) hn (gcd_dvd1 _ _)
  have hfs := dlen_div (-d) (Nat.gcd (-n).natAbs (-d).natAbs) 2000 (by decide) hdl (gcd_dvd2 _ _)
  have zc := itoaB_size _ (Nat.le_trans hcs (by decide))
  have zf := itoaB_size _ (Nat.le_trans hfs (by decide))
  have c1 : ∀ w, EnvR w → Calls Tryz.prog 79 #[.string (itoaB d)] w fun e w' => e = .returned (.int .i64 (-1)) ∧ Below w.heap.size w w' := fun w R => by have := refSign_any d w; rwa [Int.sign_eq_neg_one_of_neg hd'] at this
  have c2 : ∀ w, EnvR w → Calls Tryz.prog 80 #[.string (itoaB n)] w fun e w' => e = .returned (.string (itoaB (-n))) ∧ Below w.heap.size w w' := fun w R => refNeg_any n w (Nat.le_trans hn' (by decide))
  have c3 : ∀ w, EnvR w → Calls Tryz.prog 80 #[.string (itoaB d)] w fun e w' => e = .returned (.string (itoaB (-d))) ∧ Below w.heap.size w w' := fun w R => refNeg_any d w (Nat.le_trans hdl' (by decide))
  have c4 : ∀ w, EnvR w → Calls Tryz.prog 63 #[.string (itoaB (-n)), .string (itoaB (-d))] w fun e w' => e = .returned (.string (itoaB ((Nat.gcd (-n).natAbs (-d).natAbs : Nat) : Int))) ∧ Below w.heap.size w w' := fun w R => refGcd_any _ _ w R.env hn hdl
  have c5 : ∀ w, EnvR w → Calls Tryz.prog 81 #[.string (itoaB (-n)), .string (itoaB ((Nat.gcd (-n).natAbs (-d).natAbs : Nat) : Int))] w fun e w' => e = .returned (.tuple #[.string (itoaB ((-n) / ((Nat.gcd (-n).natAbs (-d).natAbs : Nat) : Int))), .string (itoaB ((-n) % ((Nat.gcd (-n).natAbs (-d).natAbs : Nat) : Int)))]) ∧ Below w.heap.size w w' := fun w R => refDivMod_any _ _ w R.env (Nat.le_trans hn (by decide)) (Nat.le_trans (dlen_gcd _ _ _ (by decide) hd hdl) (by decide)) (by have := gcd_pos_den (n := (-n)) hd; omega)
  have c6 : ∀ w, EnvR w → Calls Tryz.prog 81 #[.string (itoaB (-d)), .string (itoaB ((Nat.gcd (-n).natAbs (-d).natAbs : Nat) : Int))] w fun e w' => e = .returned (.tuple #[.string (itoaB ((-d) / ((Nat.gcd (-n).natAbs (-d).natAbs : Nat) : Int))), .string (itoaB ((-d) % ((Nat.gcd (-n).natAbs (-d).natAbs : Nat) : Int)))]) ∧ Below w.heap.size w w' := fun w R => refDivMod_any _ _ w R.env (Nat.le_trans hdl (by decide)) (Nat.le_trans (dlen_gcd _ _ _ (by decide) hd hdl) (by decide)) (by have := gcd_pos_den (n := (-n)) hd; omega)
  have z1 : 9 < ((itoaB n).size : Int) := by omega
  have zc' : (itoaB ((-n) / ((Nat.gcd (-n).natAbs (-d).natAbs : Nat) : Int))).size ≤ 100001 := zc
  have zf' : (itoaB ((-d) / ((Nat.gcd (-n).natAbs (-d).natAbs : Nat) : Int))).size ≤ 100001 := zf
  have h1' : ((itoaB ((-d) / ((Nat.gcd (-n).natAbs (-d).natAbs : Nat) : Int))).toList == [49]) = true := h1
  obtain ⟨c, ec⟩ : ∃ v, itoaB ((-n) / ((Nat.gcd (-n).natAbs (-d).natAbs : Nat) : Int)) = v := ⟨_, rfl⟩
  try simp only [ec] at c1 c2 c3 c4 c5 c6 z1 zc' zf' h1' ⊢
  obtain ⟨f, ef⟩ : ∃ v, itoaB ((-d) / ((Nat.gcd (-n).natAbs (-d).natAbs : Nat) : Int)) = v := ⟨_, rfl⟩
  try simp only [ef] at c1 c2 c3 c4 c5 c6 z1 zc' zf' h1' ⊢
  obtain ⟨c', ec'⟩ : ∃ v, itoaB ((-n) % ((Nat.gcd (-n).natAbs (-d).natAbs : Nat) : Int)) = v := ⟨_, rfl⟩
  try simp only [ec'] at c1 c2 c3 c4 c5 c6 z1 zc' zf' h1' ⊢
  obtain ⟨f', ef'⟩ : ∃ v, itoaB ((-d) % ((Nat.gcd (-n).natAbs (-d).natAbs : Nat) : Int)) = v := ⟨_, rfl⟩
  try simp only [ef'] at c1 c2 c3 c4 c5 c6 z1 zc' zf' h1' ⊢
  obtain ⟨g, eg⟩ : ∃ v, itoaB ((Nat.gcd (-n).natAbs (-d).natAbs : Nat) : Int) = v := ⟨_, rfl⟩
  try simp only [eg] at c1 c2 c3 c4 c5 c6 z1 zc' zf' h1' ⊢
  obtain ⟨u, eu⟩ : ∃ v, itoaB (-n) = v := ⟨_, rfl⟩
  try simp only [eu] at c1 c2 c3 c4 c5 c6 z1 zc' zf' h1' ⊢
  obtain ⟨v, ev⟩ : ∃ v, itoaB (-d) = v := ⟨_, rfl⟩
  try simp only [ev] at c1 c2 c3 c4 c5 c6 z1 zc' zf' h1' ⊢
  obtain ⟨a, ea⟩ : ∃ v, itoaB n = v := ⟨_, rfl⟩
  try simp only [ea] at c1 c2 c3 c4 c5 c6 z1 zc' zf' h1' ⊢
  obtain ⟨b, eb⟩ : ∃ v, itoaB d = v := ⟨_, rfl⟩
  try simp only [eb] at c1 c2 c3 c4 c5 c6 z1 zc' zf' h1' ⊢
  have C1 := Lib.hid c1
  have C2 := Lib.hid c2
  have C3 := Lib.hid c3
  have C4 := Lib.hid c4
  have C5 := Lib.hid c5
  have C6 := Lib.hid c6
  clear c1 c2 c3 c4 c5 c6 ec ef ec' ef' eg eu ev ea eb hn hdl hd hn' hdl' hd' hs h1 hcs hfs zc zf
  have hb := Below.refl w.heap.size w
  go_enter Tryz.func26, Tryz.ntmps26
  go_wp2_with (first | (go_at_call 79; ((with_reducible refine (chain hb (C1.out _ (R.below hb))).mono ?_); clear hb; rintro e w1 ⟨rfl, hb⟩)) | (go_at_call 80; first | ((with_reducible refine (chain hb (C2.out _ (R.below hb))).mono ?_); clear hb; rintro e w1 ⟨rfl, hb⟩) | ((with_reducible refine (chain hb (C3.out _ (R.below hb))).mono ?_); clear hb; rintro e w1 ⟨rfl, hb⟩)) | (go_at_call 63; ((with_reducible refine (chain hb (C4.out _ (R.below hb))).mono ?_); clear hb; rintro e w1 ⟨rfl, hb⟩)) | (go_at_call 81; first | ((with_reducible refine (chain hb (C5.out _ (R.below hb))).mono ?_); clear hb; rintro e w1 ⟨rfl, hb⟩) | ((with_reducible refine (chain hb (C6.out _ (R.below hb))).mono ?_); clear hb; rintro e w1 ⟨rfl, hb⟩)))
  go_ret
  exact ⟨rfl, hb⟩
set_option maxRecDepth 100000 in
set_option maxHeartbeats 200000 in
theorem frac_ma2 (n d : Int) (hn' : dlen n ≤ 2000) (hdl' : dlen d ≤ 2000) (hd' : d < 0) (hs : 9 < (itoaB n).size) (h1 : ((itoaB ((-d) / ((Nat.gcd (-n).natAbs (-d).natAbs : Nat) : Int))).toList == [49]) = false) (w : World) (R : EnvR w) :
    Calls Tryz.prog 26 #[.string (itoaB n), .string (itoaB d)] w fun e w' => e = .returned (.string (itoaB ((-n) / ((Nat.gcd (-n).natAbs (-d).natAbs : Nat) : Int)) ++ ⟨#[47]⟩ ++ itoaB ((-d) / ((Nat.gcd (-n).natAbs (-d).natAbs : Nat) : Int)))) ∧ Below w.heap.size w w' := by
  have hd : 0 < -d := by omega
  have hn : dlen (-n) ≤ 2000 := by rw [dlen_neg]; exact hn'
  have hdl : dlen (-d) ≤ 2000 := by rw [dlen_neg]; exact hdl'
  have hcs := dlen_div (-n) (Nat.gcd (-n).natAbs (-d).natAbs) 2000 (by decide) hn (gcd_dvd1 _ _)
  have hfs := dlen_div (-d) (Nat.gcd (-n).natAbs (-d).natAbs) 2000 (by decide) hdl (gcd_dvd2 _ _)
  have zc := itoaB_size _ (Nat.le_trans hcs (by decide))
  have zf := itoaB_size _ (Nat.le_trans hfs (by decide))
  have c1 : ∀ w, EnvR w → Calls Tryz.prog 79 #[.string (itoaB d)] w fun e w' => e = .returned (.int .i64 (-1)) ∧ Below w.heap.size w w' := fun w R => by have := refSign_any d w; rwa [Int.sign_eq_neg_one_of_neg hd'] at this
  have c2 : ∀ w, EnvR w → Calls Tryz.prog 80 #[.string (itoaB n)] w fun e w' => e = .returned (.string (itoaB (-n))) ∧ Below w.heap.size w w' := fun w R => refNeg_any n w (Nat.le_trans hn' (by decide))
  have c3 : ∀ w, EnvR w → Calls Tryz.prog 80 #[.string (itoaB d)] w fun e w' => e = .returned (.string (itoaB (-d))) ∧ Below w.heap.size w w' := fun w R => refNeg_any d w (Nat.le_trans hdl' (by decide))
  have c4 : ∀ w, EnvR w → Calls Tryz.prog 63 #[.string (itoaB (-n)), .string (itoaB (-d))] w fun e w' => e = .returned (.string (itoaB ((Nat.gcd (-n).natAbs (-d).natAbs : Nat) : Int))) ∧ Below w.heap.size w w' := fun w R => refGcd_any _ _ w R.env hn hdl
  have c5 : ∀ w, EnvR w → Calls Tryz.prog 81 #[.string (itoaB (-n)), .string (itoaB ((Nat.gcd (-n).natAbs (-d).natAbs : Nat) : Int))] w fun e w' => e = .returned (.tuple #[.string (itoaB ((-n) / ((Nat.gcd (-n).natAbs (-d).natAbs : Nat) : Int))), .string (itoaB ((-n) % ((Nat.gcd (-n).natAbs (-d).natAbs : Nat) : Int)))]) ∧ Below w.heap.size w w' := fun w R => refDivMod_any _ _ w R.env (Nat.le_trans hn (by decide)) (Nat.le_trans (dlen_gcd _ _ _ (by decide) hd hdl) (by decide)) (by have := gcd_pos_den (n := (-n)) hd; omega)
  have c6 : ∀ w, EnvR w → Calls Tryz.prog 81 #[.string (itoaB (-d)), .string (itoaB ((Nat.gcd (-n).natAbs (-d).natAbs : Nat) : Int))] w fun e w' => e = .returned (.tuple #[.string (itoaB ((-d) / ((Nat.gcd (-n).natAbs (-d).natAbs : Nat) : Int))), .string (itoaB ((-d) % ((Nat.gcd (-n).natAbs (-d).natAbs : Nat) : Int)))]) ∧ Below w.heap.size w w' := fun w R => refDivMod_any _ _ w R.env (Nat.le_trans hdl (by decide)) (Nat.le_trans (dlen_gcd _ _ _ (by decide) hd hdl) (by decide)) (by have := gcd_pos_den (n := (-n)) hd; omega)
  have z1 : 9 < ((itoaB n).size : Int) := by omega
  have zc' : (itoaB ((-n) / ((Nat.gcd (-n).natAbs (-d).natAbs : Nat) : Int))).size ≤ 100001 := zc
  have zf' : (itoaB ((-d) / ((Nat.gcd (-n).natAbs (-d).natAbs : Nat) : Int))).size ≤ 100001 := zf
  have h1' : ((itoaB ((-d) / ((Nat.gcd (-n).natAbs (-d).natAbs : Nat) : Int))).toList == [49]) = false := h1
  obtain ⟨c, ec⟩ : ∃ v, itoaB ((-n) / ((Nat.gcd (-n).natAbs (-d).natAbs : Nat) : Int)) = v := ⟨_, rfl⟩
  try simp only [ec] at c1 c2 c3 c4 c5 c6 z1 zc' zf' h1' ⊢
  obtain ⟨f, ef⟩ : ∃ v, itoaB ((-d) / ((Nat.gcd (-n).natAbs (-d).natAbs : Nat) : Int)) = v := ⟨_, rfl⟩
  try simp only [ef] at c1 c2 c3 c4 c5 c6 z1 zc' zf' h1' ⊢
  obtain ⟨c', ec'⟩ : ∃ v, itoaB ((-n) % ((Nat.gcd (-n).natAbs (-d).natAbs : Nat) : Int)) = v := ⟨_, rfl⟩
  try simp only [ec'] at c1 c2 c3 c4 c5 c6 z1 zc' zf' h1' ⊢
  obtain ⟨f', ef'⟩ : ∃ v, itoaB ((-d) % ((Nat.gcd (-n).natAbs (-d).natAbs : Nat) : Int)) = v := ⟨_, rfl⟩
  try simp only [ef'] at c1 c2 c3 c4 c5 c6 z1 zc' zf' h1' ⊢
  obtain ⟨g, eg⟩ : ∃ v, itoaB ((Nat.gcd (-n).natAbs (-d).natAbs : Nat) : Int) = v := ⟨_, rfl⟩
  try simp only [eg] at c1 c2 c3 c4 c5 c6 z1 zc' zf' h1' ⊢
  obtain ⟨u, eu⟩ : ∃ v, itoaB (-n) = v := ⟨_, rfl⟩
  try simp only [eu] at c1 c2 c3 c4 c5 c6 z1 zc' zf' h1' ⊢
  obtain ⟨v, ev⟩ : ∃ v, itoaB (-d) = v := ⟨_, rfl⟩
  try simp only [ev] at c1 c2 c3 c4 c5 c6 z1 zc' zf' h1' ⊢
  obtain ⟨a, ea⟩ : ∃ v, itoaB n = v := ⟨_, rfl⟩
  try simp only [ea] at c1 c2 c3 c4 c5 c6 z1 zc' zf' h1' ⊢
  obtain ⟨b, eb⟩ : ∃ v, itoaB d = v := ⟨_, rfl⟩
  try simp only [eb] at c1 c2 c3 c4 c5 c6 z1 zc' zf' h1' ⊢
  have C1 := Lib.hid c1
  have C2 := Lib.hid c2
  have C3 := Lib.hid c3
  have C4 := Lib.hid c4
  have C5 := Lib.hid c5
  have C6 := Lib.hid c6
  clear c1 c2 c3 c4 c5 c6 ec ef ec' ef' eg eu ev ea eb hn hdl hd hn' hdl' hd' hs h1 hcs hfs zc zf
  have hb := Below.refl w.heap.size w
  go_enter Tryz.func26, Tryz.ntmps26
  go_wp2_with (first | (go_at_call 79; ((with_reducible refine (chain hb (C1.out _ (R.below hb))).mono ?_); clear hb; rintro e w1 ⟨rfl, hb⟩)) | (go_at_call 80; first | ((with_reducible refine (chain hb (C2.out _ (R.below hb))).mono ?_); clear hb; rintro e w1 ⟨rfl, hb⟩) | ((with_reducible refine (chain hb (C3.out _ (R.below hb))).mono ?_); clear hb; rintro e w1 ⟨rfl, hb⟩)) | (go_at_call 63; ((with_reducible refine (chain hb (C4.out _ (R.below hb))).mono ?_); clear hb; rintro e w1 ⟨rfl, hb⟩)) | (go_at_call 81; first | ((with_reducible refine (chain hb (C5.out _ (R.below hb))).mono ?_); clear hb; rintro e w1 ⟨rfl, hb⟩) | ((with_reducible refine (chain hb (C6.out _ (R.below hb))).mono ?_); clear hb; rintro e w1 ⟨rfl, hb⟩)))
  go_ret
  exact ⟨rfl, hb⟩
set_option maxRecDepth 100000 in
set_option maxHeartbeats 200000 in
theorem frac_mb1 (n d : Int) (hn' : dlen n ≤ 2000) (hdl' : dlen d ≤ 2000) (hd' : d < 0) (hs : (itoaB n).size ≤ 9 ∧ 9 < (itoaB d).size) (h1 : ((itoaB ((-d) / ((Nat.gcd (-n).natAbs (-d).natAbs : Nat) : Int))).toList == [49]) = true) (w : World) (R : EnvR w) :
    Calls Tryz.prog 26 #[.string (itoaB n), .string (itoaB d)] w fun e w' => e = .returned (.string (itoaB ((-n) / ((Nat.gcd (-n).natAbs (-d).natAbs : Nat) : Int)))) ∧ Below w.heap.size w w' := by
  have hd : 0 < -d := by omega
  have hn : dlen (-n) ≤ 2000 := by rw [dlen_neg]; exact hn'
  have hdl : dlen (-d) ≤ 2000 := by rw [dlen_neg]; exact hdl'
  have hcs := dlen_div (-n) (Nat.gcd (-n).natAbs (-d).natAbs) 2000 (by decide) hn (gcd_dvd1 _ _)
  have hfs := dlen_div (-d) (Nat.gcd (-n).natAbs (-d).natAbs) 2000 (by decide) hdl (gcd_dvd2 _ _)
  have zc := itoaB_size _ (Nat.le_trans hcs (by decide))
  have zf := itoaB_size _ (Nat.le_trans hfs (by decide))
  have c1 : ∀ w, EnvR w → Calls Tryz.prog 79 #[.string (itoaB d)] w fun e w' => e = .returned (.int .i64 (-1)) ∧ Below w.heap.size w w' := fun w R => by have := refSign_any d w; rwa [Int.sign_eq_neg_one_of_neg hd'] at this
  have c2 : ∀ w, EnvR w → Calls Tryz.prog 80 #[.string (itoaB n)] w fun e w' => e = .returned (.string (itoaB (-n))) ∧ Below w.heap.size w w' := fun w R => refNeg_any n w (Nat.le_trans hn' (by decide))
  have c3 : ∀ w, EnvR w → Calls Tryz.prog 80 #[.string (itoaB d)] w fun e w' => e = .returned (.string (itoaB (-d))) ∧ Below w.heap.size w w' := fun w R => refNeg_any d w (Nat.le_trans hdl' (by decide))
  have c4 : ∀ w, EnvR w → Calls Tryz.prog 63 #[.string (itoaB (-n)), .string (itoaB (-d))] w fun e w' => e = .returned (.string (itoaB ((Nat.gcd (-n).natAbs (-d).natAbs : Nat) : Int))) ∧ Below w.heap.size w w' := fun w R => refGcd_any _ _ w R.env hn hdl
  have c5 : ∀ w, EnvR w → Calls Tryz.prog 81 #[.string (itoaB (-n)), .string (itoaB ((Nat.gcd (-n).natAbs (-d).natAbs : Nat) : Int))] w fun e w' => e = .returned (.tuple #[.string (itoaB ((-n) / ((Nat.gcd (-n).natAbs (-d).natAbs : Nat) : Int))), .string (itoaB ((-n) % ((Nat.gcd (-n).natAbs (-d).natAbs : Nat) : Int)))]) ∧ Below w.heap.size w w' := fun w R => refDivMod_any _ _ w R.env (Nat.le_trans hn (by decide)) (Nat.le_trans (dlen_gcd _ _ _ (by decide) hd hdl) (by decide)) (by have := gcd_pos_den (n := (-n)) hd; omega)
  have c6 : ∀ w, EnvR w → Calls Tryz.prog 81 #[.string (itoaB (-d)), .string (itoaB ((Nat.gcd (-n).natAbs (-d).natAbs : Nat) : Int))] w fun e w' => e = .returned (.tuple #[.string (itoaB ((-d) / ((Nat.gcd (-n).natAbs (-d).natAbs : Nat) : Int))), .string (itoaB ((-d) % ((Nat.gcd (-n).natAbs (-d).natAbs : Nat) : Int)))]) ∧ Below w.heap.size w w' := fun w R => refDivMod_any _ _ w R.env (Nat.le_trans hdl (by decide)) (Nat.le_trans (dlen_gcd _ _ _ (by decide) hd hdl) (by decide)) (by have := gcd_pos_den (n := (-n)) hd; omega)
  have z1 : ((itoaB n).size : Int) ≤ 9 := by omega
  have z2 : 9 < ((itoaB d).size : Int) := by omega
  have zc' : (itoaB ((-n) / ((Nat.gcd (-n).natAbs (-d).natAbs : Nat) : Int))).size ≤ 100001 := zc
  have zf' : (itoaB ((-d) / ((Nat.gcd (-n).natAbs (-d).natAbs : Nat) : Int))).size ≤ 100001 := zf
  have h1' : ((itoaB ((-d) / ((Nat.gcd (-n).natAbs (-d).natAbs : Nat) : Int))).toList == [49]) = true := h1
  obtain ⟨c, ec⟩ : ∃ v, itoaB ((-n) / ((Nat.gcd (-n).natAbs (-d).natAbs : Nat) : Int)) = v := ⟨_, rfl⟩
  try simp only [ec] at c1 c2 c3 c4 c5 c6 z1 z2 zc' zf' h1' ⊢
  obtain ⟨f, ef⟩ : ∃ v, itoaB ((-d) / ((Nat.gcd (-n).natAbs (-d).natAbs : Nat) : Int)) = v := ⟨_, rfl⟩
  try simp only [ef] at c1 c2 c3 c4 c5 c6 z1 z2 zc' zf' h1' ⊢
  obtain ⟨c', ec'⟩ : ∃ v, itoaB ((-n) % ((Nat.gcd (-n).natAbs (-d).natAbs : Nat) : Int)) = v := ⟨_, rfl⟩
  try simp only [ec'] at c1 c2 c3 c4 c5 c6 z1 z2 zc' zf' h1' ⊢
  obtain ⟨f', ef'⟩ : ∃ v, itoaB ((-d) % ((Nat.gcd (-n).natAbs (-d).natAbs : Nat) : Int)) = v := ⟨_, rfl⟩
  try simp only [ef'] at c1 c2 c3 c4 c5 c6 z1 z2 zc' zf' h1' ⊢
  obtain ⟨g, eg⟩ : ∃ v, itoaB ((Nat.gcd (-n).natAbs (-d).natAbs : Nat) : Int) = v := ⟨_, rfl⟩
  try simp only [eg] at c1 c2 c3 c4 c5 c6 z1 z2 zc' zf' h1' ⊢
  obtain ⟨u, eu⟩ : ∃ v, itoaB (-n) = v := ⟨_, rfl⟩
  try simp only [eu] at c1 c2 c3 c4 c5 c6 z1 z2 zc' zf' h1' ⊢
  obtain ⟨v, ev⟩ : ∃ v, itoaB (-d) = v := ⟨_, rfl⟩
  try simp only [ev] at c1 c2 c3 c4 c5 c6 z1 z2 zc' zf' h1' ⊢
  obtain ⟨a, ea⟩ : ∃ v, itoaB n = v := ⟨_, rfl⟩
  try simp only [ea] at c1 c2 c3 c4 c5 c6 z1 z2 zc' zf' h1' ⊢
  obtain ⟨b, eb⟩ : ∃ v, itoaB d = v := ⟨_, rfl⟩
  try simp only [eb] at c1 c2 c3 c4 c5 c6 z1 z2 zc' zf' h1' ⊢
  have C1 := Lib.hid c1
  have C2 := Lib.hid c2
  have C3 := Lib.hid c3
  have C4 := Lib.hid c4
  have C5 := Lib.hid c5
  have C6 := Lib.hid c6
  clear c1 c2 c3 c4 c5 c6 ec ef ec' ef' eg eu ev ea eb hn hdl hd hn' hdl' hd' hs h1 hcs hfs zc zf
  have hb := Below.refl w.heap.size w
  go_enter Tryz.func26, Tryz.ntmps26
  go_wp2_with (first | (go_at_call 79; ((with_reducible refine (chain hb (C1.out _ (R.below hb))).mono ?_); clear hb; rintro e w1 ⟨rfl, hb⟩)) | (go_at_call 80; first | ((with_reducible refine (chain hb (C2.out _ (R.below hb))).mono ?_); clear hb; rintro e w1 ⟨rfl, hb⟩) | ((with_reducible refine (chain hb (C3.out _ (R.below hb))).mono ?_); clear hb; rintro e w1 ⟨rfl, hb⟩)) | (go_at_call 63; ((with_reducible refine (chain hb (C4.out _ (R.below hb))).mono ?_); clear hb; rintro e w1 ⟨rfl, hb⟩)) | (go_at_call 81; first | ((with_reducible refine (chain hb (C5.out _ (R.below hb))).mono ?_); clear hb; rintro e w1 ⟨rfl, hb⟩) | ((with_reducible refine (chain hb (C6.out _ (R.below hb))).mono ?_); clear hb; rintro e w1 ⟨rfl, hb⟩)))
  go_ret
  exact ⟨rfl, hb⟩
set_option maxRecDepth 100000 in
set_option maxHeartbeats 200000 in
theorem frac_mb2 (n d : Int) (hn' : dlen n ≤ 2000) (hdl' : dlen d ≤ 2000) (hd' : d < 0) (hs : (itoaB n).size ≤ 9 ∧ 9 < (itoaB d).size) (h1 : ((itoaB ((-d) / ((Nat.gcd (-n).natAbs (-d).natAbs : Nat) : Int))).toList == [49]) = false) (w : World) (R : EnvR w) :
    Calls Tryz.prog 26 #[.string (itoaB n), .string (itoaB d)] w fun e w' => e = .returned (.string (itoaB ((-n) / ((Nat.gcd (-n).natAbs (-d).natAbs : Nat) : Int)) ++ ⟨#[47]⟩ ++ itoaB ((-d) / ((Nat.gcd (-n).natAbs (-d).natAbs : Nat) : Int)))) ∧ Below w.heap.size w w' := by
  have hd : 0 < -d := by omega
  have hn : dlen (-n) ≤ 2000 := by rw [dlen_neg]; exact hn'
  have hdl : dlen (-d) ≤ 2000 := by rw [dlen_neg]; exact hdl'
  have hcs := dlen_div (-n) (Nat.gcd (-n).natAbs (-d).natAbs) 2000 (by decide) hn (gcd_dvd1 _ _)
  have hfs := dlen_div (-d) (Nat.gcd (-n).natAbs (-d).natAbs) 2000 (by decide) hdl (gcd_dvd2 _ _)
  have zc := itoaB_size _ (Nat.le_trans hcs (by decide))
  have zf := itoaB_size _ (Nat.le_trans hfs (by decide))
  have c1 : ∀ w, EnvR w → Calls Tryz.prog 79 #[.string (itoaB d)] w fun e w' => e = .returned (.int .i64 (-1)) ∧ Below w.heap.size w w' := fun w R => by have := refSign_any d w; rwa [Int.sign_eq_neg_one_of_neg hd'] at this
  have c2 : ∀ w, EnvR w → Calls Tryz.prog 80 #[.string (itoaB n)] w fun e w' => e = .returned (.string (itoaB (-n))) ∧ Below w.heap.size w w' := fun w R => refNeg_any n w (Nat.le_trans hn' (by decide))
  have c3 : ∀ w, EnvR w → Calls Tryz.prog 80 #[.string (itoaB d)] w fun e w' => e = .returned (.string (itoaB (-d))) ∧ Below w.heap.size w w' := fun w R => refNeg_any d w (Nat.le_trans hdl' (by decide))
  have c4 : ∀ w, EnvR w → Calls Tryz.prog 63 #[.string (itoaB (-n)), .string (itoaB (-d))] w fun e w' => e = .returned (.string (itoaB ((Nat.gcd (-n).natAbs (-d).natAbs : Nat) : Int))) ∧ Below w.heap.size w w' := fun w R => refGcd_any _ _ w R.env hn hdl
  have c5 : ∀ w, EnvR w → Calls Tryz.prog 81 #[.string (itoaB (-n)), .string (itoaB ((Nat.gcd (-n).natAbs (-d).natAbs : Nat) : Int))] w fun e w' => e = .returned (.tuple #[.string (itoaB ((-n) / ((Nat.gcd (-n).natAbs (-d).natAbs : Nat) : Int))), .string (itoaB ((-n) % ((Nat.gcd (-n).natAbs (-d).natAbs : Nat) : Int)))]) ∧ Below w.heap.size w w' := fun w R => refDivMod_any _ _ w R.env (Nat.le_trans hn (by decide)) (Nat.le_trans (dlen_gcd _ _ _ (by decide) hd hdl) (by decide)) (by have := gcd_pos_den (n := (-n)) hd; omega)
  have c6 : ∀ w, EnvR w → Calls Tryz.prog 81 #[.string (itoaB (-d)), .string (itoaB ((Nat.gcd (-n).natAbs (-d).natAbs : Nat) : Int))] w fun e w' => e = .returned (.tuple #[.string (itoaB ((-d) / ((Nat.gcd (-n).natAbs (-d).natAbs : Nat) : Int))), .string (itoaB ((-d) % ((Nat.gcd (-n).natAbs (-d).natAbs : Nat) : Int)))]) ∧ Below w.heap.size w w' := fun w R => refDivMod_any _ _ w R.env (Nat.le_trans hdl (by decide)) (Nat.le_trans (dlen_gcd _ _ _ (by decide) hd hdl) (by decide)) (by have := gcd_pos_den (n := (-n)) hd; omega)
  have z1 : ((itoaB n).size : Int) ≤ 9 := by omega
  have z2 : 9 < ((itoaB d).size : Int) := by omega
  have zc' : (itoaB ((-n) / ((Nat.gcd (-n).natAbs (-d).natAbs : Nat) : Int))).size ≤ 100001 := zc
  have zf' : (itoaB ((-d) / ((Nat.gcd (-n).natAbs (-d).natAbs : Nat) : Int))).size ≤ 100001 := zf
  have h1' : ((itoaB ((-d) / ((Nat.gcd (-n).natAbs (-d).natAbs : Nat) : Int))).toList == [49]) = false := h1
  obtain ⟨c, ec⟩ : ∃ v, itoaB ((-n) / ((Nat.gcd (-n).natAbs (-d).natAbs : Nat) : Int)) = v := ⟨_, rfl⟩
  try simp only [ec] at c1 c2 c3 c4 c5 c6 z1 z2 zc' zf' h1' ⊢
  obtain ⟨f, ef⟩ : ∃ v, itoaB ((-d) / ((Nat.gcd (-n).natAbs (-d).natAbs : Nat) : Int)) = v := ⟨_, rfl⟩
  try simp only [ef] at c1 c2 c3 c4 c5 c6 z1 z2 zc' zf' h1' ⊢
  obtain ⟨c', ec'⟩ : ∃ v, itoaB ((-n) % ((Nat.gcd (-n).natAbs (-d).natAbs : Nat) : Int)) = v := ⟨_, rfl⟩
  try simp only [ec'] at c1 c2 c3 c4 c5 c6 z1 z2 zc' zf' h1' ⊢
  obtain ⟨f', ef'⟩ : ∃ v, itoaB ((-d) % ((Nat.gcd (-n).natAbs (-d).natAbs : Nat) : Int)) = v := ⟨_, rfl⟩
  try simp only [ef'] at c1 c2 c3 c4 c5 c6 z1 z2 zc' zf' h1' ⊢
  obtain ⟨g, eg⟩ : ∃ v, itoaB ((Nat.gcd (-n).natAbs (-d).natAbs : Nat) : Int) = v := ⟨_, rfl⟩
  try simp only [eg] at c1 c2 c3 c4 c5 c6 z1 z2 zc' zf' h1' ⊢
  obtain ⟨u, eu⟩ : ∃ v, itoaB (-n) = v := ⟨_, rfl⟩
  try simp only [eu] at c1 c2 c3 c4 c5 c6 z1 z2 zc' zf' h1' ⊢
  obtain ⟨v, ev⟩ : ∃ v, itoaB (-d) = v := ⟨_, rfl⟩
  try simp only [ev] at c1 c2 c3 c4 c5 c6 z1 z2 zc' zf' h1' ⊢
  obtain ⟨a, ea⟩ : ∃ v, itoaB n = v := ⟨_, rfl⟩
  try simp only [ea] at c1 c2 c3 c4 c5 c6 z1 z2 zc' zf' h1' ⊢
  obtain ⟨b, eb⟩ : ∃ v, itoaB d = v := ⟨_, rfl⟩
  try simp only [eb] at c1 c2 c3 c4 c5 c6 z1 z2 zc' zf' h1' ⊢
  have C1 := Lib.hid c1
  have C2 := Lib.hid c2
  have C3 := Lib.hid c3
  have C4 := Lib.hid c4
  have C5 := Lib.hid c5
  have C6 := Lib.hid c6
  clear c1 c2 c3 c4 c5 c6 ec ef ec' ef' eg eu ev ea eb hn hdl hd hn' hdl' hd' hs h1 hcs hfs zc zf
  have hb := Below.refl w.heap.size w
  go_enter Tryz.func26, Tryz.ntmps26
  go_wp2_with (first | (go_at_call 79; ((with_reducible refine (chain hb (C1.out _ (R.below hb))).mono ?_); clear hb; rintro e w1 ⟨rfl, hb⟩)) | (go_at_call 80; first | ((with_reducible refine (chain hb (C2.out _ (R.below hb))).mono ?_); clear hb; rintro e w1 ⟨rfl, hb⟩) | ((with_reducible refine (chain hb (C3.out _ (R.below hb))).mono ?_); clear hb; rintro e w1 ⟨rfl, hb⟩)) | (go_at_call 63; ((with_reducible refine (chain hb (C4.out _ (R.below hb))).mono ?_); clear hb; rintro e w1 ⟨rfl, hb⟩)) | (go_at_call 81; first | ((with_reducible refine (chain hb (C5.out _ (R.below hb))).mono ?_); clear hb; rintro e w1 ⟨rfl, hb⟩) | ((with_reducible refine (chain hb (C6.out _ (R.below hb))).mono ?_); clear hb; rintro e w1 ⟨rfl, hb⟩)))
  go_ret
  exact ⟨rfl, hb⟩
/-- The reference's quotient, where a part is long. -/
theorem frac_long (n d : Int) (w : World) (R : EnvR w) (hn : dlen n ≤ 2000) (hdl : dlen d ≤ 2000) (hd : d ≠ 0) (hs : ¬ ((itoaB n).size ≤ 9 ∧ (itoaB d).size ≤ 9)) :
    Calls Tryz.prog 26 #[.string (itoaB n), .string (itoaB d)] w fun e w' => e = .returned (.string (ratB (Rat.divInt n d))) ∧ Below w.heap.size w w' := by
  rcases Int.lt_trichotomy d 0 with h | h | h
  · have hm := mk_parts (-n) (-d) (by omega)
    rw [Rat.neg_divInt_neg] at hm
    rw [ratB_of _ _ _ hm.1 hm.2]
    by_cases h1 : -d / ((Nat.gcd (-n).natAbs (-d).natAbs : Nat) : Int) = 1
    · rw [if_pos h1]
      have e1 := (str_one _).trans (decide_eq_true h1)
      by_cases hs1 : 9 < (itoaB n).size
      · exact frac_ma1 n d hn hdl h hs1 e1 w R
      · exact frac_mb1 n d hn hdl h ⟨by omega, by omega⟩ e1 w R
    · rw [if_neg h1]
      have e1 := (str_one _).trans (decide_eq_false h1)
      by_cases hs1 : 9 < (itoaB n).size
      · exact frac_ma2 n d hn hdl h hs1 e1 w R
      · exact frac_mb2 n d hn hdl h ⟨by omega, by omega⟩ e1 w R
  · exact absurd h hd
  · have hm := mk_parts n d h
    rw [ratB_of _ _ _ hm.1 hm.2]
    by_cases h1 : d / ((Nat.gcd n.natAbs d.natAbs : Nat) : Int) = 1
    · rw [if_pos h1]
      have e1 := (str_one _).trans (decide_eq_true h1)
      by_cases hs1 : 9 < (itoaB n).size
      · exact frac_pa1 n d hn hdl h hs1 e1 w R
      · exact frac_pb1 n d hn hdl h ⟨by omega, by omega⟩ e1 w R
    · rw [if_neg h1]
      have e1 := (str_one _).trans (decide_eq_false h1)
      by_cases hs1 : 9 < (itoaB n).size
      · exact frac_pa2 n d hn hdl h hs1 e1 w R
      · exact frac_pb2 n d hn hdl h ⟨by omega, by omega⟩ e1 w R
end Go.Proofs.YtgllflfifbacnaaGreatDoor.Kl
