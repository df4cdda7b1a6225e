/- Contracts: the reference's short fractions. -/
import Derived.Test.YtgllflfifbacnaaGreatDoorKlRatR
namespace Go.Proofs.YtgllflfifbacnaaGreatDoor.Kl
open Go Go.RowKit

theorem atoi_call (n : Int) (h : (itoaB n).size ≤ 18) (w : World) :
    Calls Tryz.prog 131 #[.string (itoaB n)] w fun e w' => e = .returned (.tuple #[.int .i64 n, .nilIface]) ∧ Below w.heap.size w w' := by
  refine (Tryz.strconv_Atoi (itoaB n) n h (atoi_itoa n) w).mono ?_
  rintro e w' ⟨he, t, rfl⟩
  exact ⟨he, Lib.bytesWorld_below _ _ _⟩
theorem quo_x (n : Int) (G : Nat) (x : Int) (h : (G : Int) ∣ n) (hx : n / (G : Int) = x) : n.tdiv (G : Int) = x := (Int.tdiv_eq_ediv_of_dvd h).trans hx
theorem quo_b (n : Int) (G : Nat) (h0 : -9223372036854775808 < n) (h1 : n < 9223372036854775808) : -9223372036854775808 < n / (G : Int) ∧ n / (G : Int) < 9223372036854775808 := by
  have := Int.natAbs_ediv_le_natAbs n (G : Int); omega
set_option maxRecDepth 100000 in
set_option maxHeartbeats 4000000 in
theorem small_pp (n d : Int) (s t : ByteArray) (x y : Int) (A B G : Nat) (r : ByteArray) (hG0 : 0 < G) (hA : A < 9223372036854775808) (hB : B < 9223372036854775808) (hg : Nat.gcd A B = G) (hx0 : -9223372036854775808 < x) (hx1 : x < 9223372036854775808) (hy0 : 0 < y) (hy1 : y < 9223372036854775808) (h1 : y = 1 → itoaB x = r) (h2 : y ≠ 1 → itoaB x ++ ⟨#[47]⟩ ++ itoaB y = r) (hn0 : -1000000000 < n) (hn1 : n < 1000000000) (hd0 : -1000000000 < d) (hd1 : d < 1000000000) (hds : 0 < d) (hns : 0 ≤ n) (hNA : n = (A : Int)) (hDB : d = (B : Int)) (hx : n.tdiv (G : Int) = x) (hy : d.tdiv (G : Int) = y)
    (k1 : ∀ w, Calls Tryz.prog 131 #[.string s] w fun e w' => e = .returned (.tuple #[.int .i64 n, .nilIface]) ∧ Below w.heap.size w w') (k2 : ∀ w, Calls Tryz.prog 131 #[.string t] w fun e w' => e = .returned (.tuple #[.int .i64 d, .nilIface]) ∧ Below w.heap.size w w') (w : World) (R : EnvR w) :
    Calls Tryz.prog 78 #[.string s, .string t] w fun e w' => e = .returned (.string r) ∧ Below w.heap.size w w' := by
  have HX := Lib.hid hx
  have HY := Lib.hid hy
  have HG := Lib.hid hg
  have HA := Lib.hid hA
  have HB := Lib.hid hB
  have H1 := Lib.hid h1
  have H2 := Lib.hid h2
  have CX := Lib.hid (fun (w : World) (R : EnvR w) => itoa_call x (by omega) (by omega) w R.env)
  have CY := Lib.hid (fun (w : World) (R : EnvR w) => itoa_call y (by omega) (by omega) w R.env)
  have zx : (itoaB x).size ≤ 100001 := itoaB_size x (Nat.le_trans (dlen_int x (by omega) (by omega)) (by decide))
  have zy : (itoaB y).size ≤ 100001 := itoaB_size y (Nat.le_trans (dlen_int y (by omega) (by omega)) (by decide))
  obtain ⟨sx, esx⟩ : ∃ v, itoaB x = v := ⟨_, rfl⟩
  obtain ⟨sy, esy⟩ : ∃ v, itoaB y = v := ⟨_, rfl⟩
  simp only [esx, esy] at CX CY H1 H2 zx zy
  clear hx hy hg h1 h2 esx esy hA hB
  have HNA := Lib.hid hNA
  have HDB := Lib.hid hDB
  clear hNA hDB
  have K1 := Lib.hid k1
  have K2 := Lib.hid k2
  clear k1 k2
  have hb := Below.refl w.heap.size w
  go_enter Tryz.func78, Tryz.ntmps78
  go_wp2_with (go_at_call 131; first | ((with_reducible refine (chain hb (K1.out _)).mono ?_); clear hb; rintro e w1 ⟨rfl, hb⟩) | ((with_reducible refine (chain hb (K2.out _)).mono ?_); clear hb; rintro e w1 ⟨rfl, hb⟩))
  clear K1 K2
  go_loopw [9, 10] (fun a b wr => ∃ p q : Nat, a = .int .i64 p ∧ b = .int .i64 q ∧ p < 9223372036854775808 ∧ q < 9223372036854775808 ∧ Nat.gcd p q = G ∧ Below w.heap.size w wr) (fun _ b _ => (intOf b).toNat)
  case atStart => exact ⟨A, B, congrArg (Value.int .i64) (by have := HNA.out; omega), congrArg (Value.int .i64) (by have := HDB.out; omega), HA.out, HB.out, HG.out, hb⟩
  case round =>
    obtain ⟨p, q, rfl, rfl, hp, hq, hg, hb⟩ := hrel
    have HGG := Lib.hid hg
    clear hg
    by_cases h0 : q = 0
    · subst h0
      have e : p = G := by rw [← HGG.out]; simp
      subst e
      have hp0 : ¬ (p = 0) := by omega
      have hwx : IntKind.i64.wrap x = x := IntWalk.i64_in _ (by omega)
      have hwy : IntKind.i64.wrap y = y := IntWalk.i64_in _ (by omega)
      have hx := HX.out
      have hy := HY.out
      have hb2 := Below.drews hb
      by_cases h1 : y = 1
      · have h1i : ((y : Int) == 1) = true := by rw [beq_iff_eq]; exact h1
        go_wp2
        go_quiet (fail)
        go_wp2_with (go_at_call 70; (with_reducible refine (chain2 (hb2 _) (CX.out _ (R.below (hb2 _)))).mono ?_); rintro e w3 ⟨rfl, hk, hb3⟩)
        go_ret
        exact ⟨retS (H1.out h1), hb3⟩
      · have h1i : ((y : Int) == 1) = false := by rw [beq_eq_false_iff_ne]; exact h1
        go_wp2
        go_quiet (fail)
        go_wp2_with (go_at_call 70; first | ((with_reducible refine (chain2 (hb2 _) (CX.out _ (R.below (hb2 _)))).mono ?_); clear hb2; rintro e w3 ⟨rfl, hk, hb3⟩; clear hk) | ((with_reducible refine (chain2 hb3 (CY.out _ (R.below hb3))).mono ?_); clear hb3; rintro e w4 ⟨rfl, hk, hb3⟩; clear hk))
        go_ret
        exact ⟨retS (H2.out h1), hb3⟩
    · have hne : ((q : Int) == 0) = false := by simpa using h0
      have hpos : (0 : Int) < (q : Int) := by omega
      go_wp2
      go_quiet (fail)
      go_wp2
      go_roundw
      case rel => exact ⟨q, p % q, rfl, by go_num, hq, by have := Nat.mod_lt p (Nat.pos_of_ne_zero h0); omega, by rw [← HGG.out, Nat.gcd_comm p q, Nat.gcd_rec q p, Nat.gcd_comm]; done, Below.drews hb _⟩
      case measure => simp [intOf]; have := Int.emod_lt_of_pos (p : Int) hpos; omega
set_option maxRecDepth 100000 in
set_option maxHeartbeats 4000000 in
theorem small_pm (n d : Int) (s t : ByteArray) (x y : Int) (A B G : Nat) (r : ByteArray) (hG0 : 0 < G) (hA : A < 9223372036854775808) (hB : B < 9223372036854775808) (hg : Nat.gcd A B = G) (hx0 : -9223372036854775808 < x) (hx1 : x < 9223372036854775808) (hy0 : 0 < y) (hy1 : y < 9223372036854775808) (h1 : y = 1 → itoaB x = r) (h2 : y ≠ 1 → itoaB x ++ ⟨#[47]⟩ ++ itoaB y = r) (hn0 : -1000000000 < n) (hn1 : n < 1000000000) (hd0 : -1000000000 < d) (hd1 : d < 1000000000) (hds : 0 < d) (hns : n < 0) (hNA : -n = (A : Int)) (hDB : d = (B : Int)) (hx : n.tdiv (G : Int) = x) (hy : d.tdiv (G : Int) = y)
    (k1 : ∀ w, Calls Tryz.prog 131 #[.string s] w fun e w' => e = .returned (.tuple #[.int .i64 n, .nilIface]) ∧ Below w.heap.size w w') (k2 : ∀ w, Calls Tryz.prog 131 #[.string t] w fun e w' => e = .returned (.tuple #[.int .i64 d, .nilIface]) ∧ Below w.heap.size w w') (w : World) (R : EnvR w) :
    Calls Tryz.prog 78 #[.string s, .string t] w fun e w' => e = .returned (.string r) ∧ Below w.heap.size w w' := by
  have HX := Lib.hid hx
  have HY := Lib.hid hy
  have HG := Lib.hid hg
  have HA := Lib.hid hA
  have HB := Lib.hid hB
  have H1 := Lib.hid h1
  have H2 := Lib.hid h2
  have CX := Lib.hid (fun (w : World) (R : EnvR w) => itoa_call x (by omega) (by omega) w R.env)
  have CY := Lib.hid (fun (w : World) (R : EnvR w) => itoa_call y (by omega) (by omega) w R.env)
  have zx : (itoaB x).size ≤ 100001 := itoaB_size x (Nat.le_trans (dlen_int x (by omega) (by omega)) (by decide))
  have zy : (itoaB y).size ≤ 100001 := itoaB_size y (Nat.le_trans (dlen_int y (by omega) (by omega)) (by decide))
  obtain ⟨sx, esx⟩ : ∃ v, itoaB x = v := ⟨_, rfl⟩
  obtain ⟨sy, esy⟩ : ∃ v, itoaB y = v := ⟨_, rfl⟩
  simp only [esx, esy] at CX CY H1 H2 zx zy
  clear hx hy hg h1 h2 esx esy hA hB
  have HNA := Lib.hid hNA
  have HDB := Lib.hid hDB
  clear hNA hDB
  have K1 := Lib.hid k1
  have K2 := Lib.hid k2
  clear k1 k2
  have hb := Below.refl w.heap.size w
  go_enter Tryz.func78, Tryz.ntmps78
  go_wp2_with (go_at_call 131; first | ((with_reducible refine (chain hb (K1.out _)).mono ?_); clear hb; rintro e w1 ⟨rfl, hb⟩) | ((with_reducible refine (chain hb (K2.out _)).mono ?_); clear hb; rintro e w1 ⟨rfl, hb⟩))
  clear K1 K2
  go_loopw [9, 10] (fun a b wr => ∃ p q : Nat, a = .int .i64 p ∧ b = .int .i64 q ∧ p < 9223372036854775808 ∧ q < 9223372036854775808 ∧ Nat.gcd p q = G ∧ Below w.heap.size w wr) (fun _ b _ => (intOf b).toNat)
  case atStart => exact ⟨A, B, congrArg (Value.int .i64) (by have := HNA.out; omega), congrArg (Value.int .i64) (by have := HDB.out; omega), HA.out, HB.out, HG.out, hb⟩
  case round =>
    obtain ⟨p, q, rfl, rfl, hp, hq, hg, hb⟩ := hrel
    have HGG := Lib.hid hg
    clear hg
    by_cases h0 : q = 0
    · subst h0
      have e : p = G := by rw [← HGG.out]; simp
      subst e
      have hp0 : ¬ (p = 0) := by omega
      have hwx : IntKind.i64.wrap x = x := IntWalk.i64_in _ (by omega)
      have hwy : IntKind.i64.wrap y = y := IntWalk.i64_in _ (by omega)
      have hx := HX.out
      have hy := HY.out
      have hb2 := Below.drews hb
      by_cases h1 : y = 1
      · have h1i : ((y : Int) == 1) = true := by rw [beq_iff_eq]; exact h1
        go_wp2
        go_quiet (fail)
        go_wp2_with (go_at_call 70; (with_reducible refine (chain2 (hb2 _) (CX.out _ (R.below (hb2 _)))).mono ?_); rintro e w3 ⟨rfl, hk, hb3⟩)
        go_ret
        exact ⟨retS (H1.out h1), hb3⟩
      · have h1i : ((y : Int) == 1) = false := by rw [beq_eq_false_iff_ne]; exact h1
        go_wp2
        go_quiet (fail)
        go_wp2_with (go_at_call 70; first | ((with_reducible refine (chain2 (hb2 _) (CX.out _ (R.below (hb2 _)))).mono ?_); clear hb2; rintro e w3 ⟨rfl, hk, hb3⟩; clear hk) | ((with_reducible refine (chain2 hb3 (CY.out _ (R.below hb3))).mono ?_); clear hb3; rintro e w4 ⟨rfl, hk, hb3⟩; clear hk))
        go_ret
        exact ⟨retS (H2.out h1), hb3⟩
    · have hne : ((q : Int) == 0) = false := by simpa using h0
      have hpos : (0 : Int) < (q : Int) := by omega
      go_wp2
      go_quiet (fail)
      go_wp2
      go_roundw
      case rel => exact ⟨q, p % q, rfl, by go_num, hq, by have := Nat.mod_lt p (Nat.pos_of_ne_zero h0); omega, by rw [← HGG.out, Nat.gcd_comm p q, Nat.gcd_rec q p, Nat.gcd_comm]; done, Below.drews hb _⟩
      case measure => simp [intOf]; have := Int.emod_lt_of_pos (p : Int) hpos; omega
set_option maxRecDepth 100000 in
set_option maxHeartbeats 4000000 in
theorem small_mp (n d : Int) (s t : ByteArray) (x y : Int) (A B G : Nat) (r : ByteArray) (hG0 : 0 < G) (hA : A < 9223372036854775808) (hB : B < 9223372036854775808) (hg : Nat.gcd A B = G) (hx0 : -9223372036854775808 < x) (hx1 : x < 9223372036854775808) (hy0 : 0 < y) (hy1 : y < 9223372036854775808) (h1 : y = 1 → itoaB x = r) (h2 : y ≠ 1 → itoaB x ++ ⟨#[47]⟩ ++ itoaB y = r) (hn0 : -1000000000 < n) (hn1 : n < 1000000000) (hd0 : -1000000000 < d) (hd1 : d < 1000000000) (hds : d < 0) (hns : 0 ≤ (-n)) (hNA : (-n) = (A : Int)) (hDB : (-d) = (B : Int)) (hx : (-n).tdiv (G : Int) = x) (hy : (-d).tdiv (G : Int) = y)
    (k1 : ∀ w, Calls Tryz.prog 131 #[.string s] w fun e w' => e = .returned (.tuple #[.int .i64 n, .nilIface]) ∧ Below w.heap.size w w') (k2 : ∀ w, Calls Tryz.prog 131 #[.string t] w fun e w' => e = .returned (.tuple #[.int .i64 d, .nilIface]) ∧ Below w.heap.size w w') (w : World) (R : EnvR w) :
    Calls Tryz.prog 78 #[.string s, .string t] w fun e w' => e = .returned (.string r) ∧ Below w.heap.size w w' := by
  have HX := Lib.hid hx
  have HY := Lib.hid hy
  have HG := Lib.hid hg
  have HA := Lib.hid hA
  have HB := Lib.hid hB
  have H1 := Lib.hid h1
  have H2 := Lib.hid h2
  have CX := Lib.hid (fun (w : World) (R : EnvR w) => itoa_call x (by omega) (by omega) w R.env)
  have CY := Lib.hid (fun (w : World) (R : EnvR w) => itoa_call y (by omega) (by omega) w R.env)
  have zx : (itoaB x).size ≤ 100001 := itoaB_size x (Nat.le_trans (dlen_int x (by omega) (by omega)) (by decide))
  have zy : (itoaB y).size ≤ 100001 := itoaB_size y (Nat.le_trans (dlen_int y (by omega) (by omega)) (by decide))
  obtain ⟨sx, esx⟩ : ∃ v, itoaB x = v := ⟨_, rfl⟩
  obtain ⟨sy, esy⟩ : ∃ v, itoaB y = v := ⟨_, rfl⟩
  simp only [esx, esy] at CX CY H1 H2 zx zy
  clear hx hy hg h1 h2 esx esy hA hB
  have HNA := Lib.hid hNA
  have HDB := Lib.hid hDB
  clear hNA hDB
  have K1 := Lib.hid k1
  have K2 := Lib.hid k2
  clear k1 k2
  have hb := Below.refl w.heap.size w
  go_enter Tryz.func78, Tryz.ntmps78
  go_wp2_with (go_at_call 131; first | ((with_reducible refine (chain hb (K1.out _)).mono ?_); clear hb; rintro e w1 ⟨rfl, hb⟩) | ((with_reducible refine (chain hb (K2.out _)).mono ?_); clear hb; rintro e w1 ⟨rfl, hb⟩))
  clear K1 K2
  go_loopw [9, 10] (fun a b wr => ∃ p q : Nat, a = .int .i64 p ∧ b = .int .i64 q ∧ p < 9223372036854775808 ∧ q < 9223372036854775808 ∧ Nat.gcd p q = G ∧ Below w.heap.size w wr) (fun _ b _ => (intOf b).toNat)
  case atStart => exact ⟨A, B, congrArg (Value.int .i64) (by have := HNA.out; omega), congrArg (Value.int .i64) (by have := HDB.out; omega), HA.out, HB.out, HG.out, hb⟩
  case round =>
    obtain ⟨p, q, rfl, rfl, hp, hq, hg, hb⟩ := hrel
    have HGG := Lib.hid hg
    clear hg
    by_cases h0 : q = 0
    · subst h0
      have e : p = G := by rw [← HGG.out]; simp
      subst e
      have hp0 : ¬ (p = 0) := by omega
      have hwx : IntKind.i64.wrap x = x := IntWalk.i64_in _ (by omega)
      have hwy : IntKind.i64.wrap y = y := IntWalk.i64_in _ (by omega)
      have hx := HX.out
      have hy := HY.out
      have hb2 := Below.drews hb
      by_cases h1 : y = 1
      · have h1i : ((y : Int) == 1) = true := by rw [beq_iff_eq]; exact h1
        go_wp2
        go_quiet (fail)
        go_wp2_with (go_at_call 70; (with_reducible refine (chain2 (hb2 _) (CX.out _ (R.below (hb2 _)))).mono ?_); rintro e w3 ⟨rfl, hk, hb3⟩)
        go_ret
        exact ⟨retS (H1.out h1), hb3⟩
      · have h1i : ((y : Int) == 1) = false := by rw [beq_eq_false_iff_ne]; exact h1
        go_wp2
        go_quiet (fail)
        go_wp2_with (go_at_call 70; first | ((with_reducible refine (chain2 (hb2 _) (CX.out _ (R.below (hb2 _)))).mono ?_); clear hb2; rintro e w3 ⟨rfl, hk, hb3⟩; clear hk) | ((with_reducible refine (chain2 hb3 (CY.out _ (R.below hb3))).mono ?_); clear hb3; rintro e w4 ⟨rfl, hk, hb3⟩; clear hk))
        go_ret
        exact ⟨retS (H2.out h1), hb3⟩
    · have hne : ((q : Int) == 0) = false := by simpa using h0
      have hpos : (0 : Int) < (q : Int) := by omega
      go_wp2
      go_quiet (fail)
      go_wp2
      go_roundw
      case rel => exact ⟨q, p % q, rfl, by go_num, hq, by have := Nat.mod_lt p (Nat.pos_of_ne_zero h0); omega, by rw [← HGG.out, Nat.gcd_comm p q, Nat.gcd_rec q p, Nat.gcd_comm]; done, Below.drews hb _⟩
      case measure => simp [intOf]; have := Int.emod_lt_of_pos (p : Int) hpos; omega
set_option maxRecDepth 100000 in
set_option maxHeartbeats 4000000 in
theorem small_mm (n d : Int) (s t : ByteArray) (x y : Int) (A B G : Nat) (r : ByteArray) (hG0 : 0 < G) (hA : A < 9223372036854775808) (hB : B < 9223372036854775808) (hg : Nat.gcd A B = G) (hx0 : -9223372036854775808 < x) (hx1 : x < 9223372036854775808) (hy0 : 0 < y) (hy1 : y < 9223372036854775808) (h1 : y = 1 → itoaB x = r) (h2 : y ≠ 1 → itoaB x ++ ⟨#[47]⟩ ++ itoaB y = r) (hn0 : -1000000000 < n) (hn1 : n < 1000000000) (hd0 : -1000000000 < d) (hd1 : d < 1000000000) (hds : d < 0) (hns : (-n) < 0) (hNA : -(-n) = (A : Int)) (hDB : (-d) = (B : Int)) (hx : (-n).tdiv (G : Int) = x) (hy : (-d).tdiv (G : Int) = y)
    (k1 : ∀ w, Calls Tryz.prog 131 #[.string s] w fun e w' => e = .returned (.tuple #[.int .i64 n, .nilIface]) ∧ Below w.heap.size w w') (k2 : ∀ w, Calls Tryz.prog 131 #[.string t] w fun e w' => e = .returned (.tuple #[.int .i64 d, .nilIface]) ∧ Below w.heap.size w w') (w : World) (R : EnvR w) :
    Calls Tryz.prog 78 #[.string s, .string t] w fun e w' => e = .returned (.string r) ∧ Below w.heap.size w w' := by
  have HX := Lib.hid hx
  have HY := Lib.hid hy
  have HG := Lib.hid hg
  have HA := Lib.hid hA
  have HB := Lib.hid hB
  have H1 := Lib.hid h1
  have H2 := Lib.hid h2
  have CX := Lib.hid (fun (w : World) (R : EnvR w) => itoa_call x (by omega) (by omega) w R.env)
  have CY := Lib.hid (fun (w : World) (R : EnvR w) => itoa_call y (by omega) (by omega) w R.env)
  have zx : (itoaB x).size ≤ 100001 := itoaB_size x (Nat.le_trans (dlen_int x (by omega) (by omega)) (by decide))
  have zy : (itoaB y).size ≤ 100001 := itoaB_size y (Nat.le_trans (dlen_int y (by omega) (by omega)) (by decide))
  obtain ⟨sx, esx⟩ : ∃ v, itoaB x = v := ⟨_, rfl⟩
  obtain ⟨sy, esy⟩ : ∃ v, itoaB y = v := ⟨_, rfl⟩
  simp only [esx, esy] at CX CY H1 H2 zx zy
  clear hx hy hg h1 h2 esx esy hA hB
  have HNA := Lib.hid hNA
  have HDB := Lib.hid hDB
  clear hNA hDB
  have K1 := Lib.hid k1
  have K2 := Lib.hid k2
  clear k1 k2
  have hb := Below.refl w.heap.size w
  go_enter Tryz.func78, Tryz.ntmps78
  go_wp2_with (go_at_call 131; first | ((with_reducible refine (chain hb (K1.out _)).mono ?_); clear hb; rintro e w1 ⟨rfl, hb⟩) | ((with_reducible refine (chain hb (K2.out _)).mono ?_); clear hb; rintro e w1 ⟨rfl, hb⟩))
  clear K1 K2
  go_loopw [9, 10] (fun a b wr => ∃ p q : Nat, a = .int .i64 p ∧ b = .int .i64 q ∧ p < 9223372036854775808 ∧ q < 9223372036854775808 ∧ Nat.gcd p q = G ∧ Below w.heap.size w wr) (fun _ b _ => (intOf b).toNat)
  case atStart => exact ⟨A, B, congrArg (Value.int .i64) (by have := HNA.out; omega), congrArg (Value.int .i64) (by have := HDB.out; omega), HA.out, HB.out, HG.out, hb⟩
  case round =>
    obtain ⟨p, q, rfl, rfl, hp, hq, hg, hb⟩ := hrel
    have HGG := Lib.hid hg
    clear hg
    by_cases h0 : q = 0
    · subst h0
      have e : p = G := by rw [← HGG.out]; simp
      subst e
      have hp0 : ¬ (p = 0) := by omega
      have hwx : IntKind.i64.wrap x = x := IntWalk.i64_in _ (by omega)
      have hwy : IntKind.i64.wrap y = y := IntWalk.i64_in _ (by omega)
      have hx := HX.out
      have hy := HY.out
      have hb2 := Below.drews hb
      by_cases h1 : y = 1
      · have h1i : ((y : Int) == 1) = true := by rw [beq_iff_eq]; exact h1
        go_wp2
        go_quiet (fail)
        go_wp2_with (go_at_call 70; (with_reducible refine (chain2 (hb2 _) (CX.out _ (R.below (hb2 _)))).mono ?_); rintro e w3 ⟨rfl, hk, hb3⟩)
        go_ret
        exact ⟨retS (H1.out h1), hb3⟩
      · have h1i : ((y : Int) == 1) = false := by rw [beq_eq_false_iff_ne]; exact h1
        go_wp2
        go_quiet (fail)
        go_wp2_with (go_at_call 70; first | ((with_reducible refine (chain2 (hb2 _) (CX.out _ (R.below (hb2 _)))).mono ?_); clear hb2; rintro e w3 ⟨rfl, hk, hb3⟩; clear hk) | ((with_reducible refine (chain2 hb3 (CY.out _ (R.below hb3))).mono ?_); clear hb3; rintro e w4 ⟨rfl, hk, hb3⟩; clear hk))
        go_ret
        exact ⟨retS (H2.out h1), hb3⟩
    · have hne : ((q : Int) == 0) = false := by simpa using h0
      have hpos : (0 : Int) < (q : Int) := by omega
      go_wp2
      go_quiet (fail)
      go_wp2
      go_roundw
      case rel => exact ⟨q, p % q, rfl, by go_num, hq, by have := Nat.mod_lt p (Nat.pos_of_ne_zero h0); omega, by rw [← HGG.out, Nat.gcd_comm p q, Nat.gcd_rec q p, Nat.gcd_comm]; done, Below.drews hb _⟩
      case measure => simp [intOf]; have := Int.emod_lt_of_pos (p : Int) hpos; omega
theorem gcd_parts (n d : Int) (hd : 0 < d) (G : Nat) (hG : Nat.gcd n.natAbs d.natAbs = G) : 0 < G ∧ (G : Int) ∣ n ∧ (G : Int) ∣ d ∧ (Rat.divInt n d).num = n / (G : Int) ∧ ((Rat.divInt n d).den : Int) = d / (G : Int) := by
  obtain ⟨h1, h2⟩ := mk_parts n d hd
  have v1 := gcd_dvd1 n d
  have v2 := gcd_dvd2 n d
  have h0 := Nat.gcd_pos_of_pos_right n.natAbs (show 0 < d.natAbs by omega)
  rw [hG] at h0 h1 h2 v1 v2
  exact ⟨h0, v1, v2, h1, h2⟩
theorem ratB_cases (q : Rat) (x y : Int) (hx : q.num = x) (hy : (q.den : Int) = y) : (y = 1 → itoaB x = ratB q) ∧ (y ≠ 1 → itoaB x ++ ⟨#[47]⟩ ++ itoaB y = ratB q) := by
  have h := ratB_of q x y hx hy
  exact ⟨fun e => by rw [h, if_pos e], fun e => by rw [h, if_neg e]⟩
/-- The reference's quotient of short parts. -/
theorem refSmall2_any (n d : Int) (hn : (itoaB n).size ≤ 9) (hdl : (itoaB d).size ≤ 9) (hd : d ≠ 0) (w : World) (R : EnvR w) :
    Calls Tryz.prog 78 #[.string (itoaB n), .string (itoaB d)] w fun e w' => e = .returned (.string (ratB (Rat.divInt n d))) ∧ Below w.heap.size w w' := by
  have s1 := itoa_size n
  have s2 := itoa_size d
  have l1 := dlen_lt n 9 (by split at s1 <;> omega)
  have l2 := dlen_lt d 9 (by split at s2 <;> omega)
  have k1 := fun w => atoi_call n (by omega) w
  have k2 := fun w => atoi_call d (by omega) w
  rcases Int.lt_trichotomy d 0 with h | h | h
  · obtain ⟨G, hG⟩ : ∃ G, Nat.gcd (-n).natAbs (-d).natAbs = G := ⟨_, rfl⟩
    obtain ⟨g0, v1, v2, m1, m2⟩ := gcd_parts (-n) (-d) (by omega) G hG
    rw [Rat.neg_divInt_neg] at m1 m2
    obtain ⟨r1, r2⟩ := ratB_cases _ _ _ m1 m2
    have b1 := quo_b (-n) G (by omega) (by omega)
    have b2 := quo_b (-d) G (by omega) (by omega)
    have hp := (Rat.divInt n d).den_pos
    by_cases hn2 : -n < 0
    · exact small_mm n d _ _ _ _ (-n).natAbs (-d).natAbs G _ g0 (by omega) (by omega) hG b1.1 b1.2 (by omega) b2.2 r1 r2 (by omega) (by omega) (by omega) (by omega) h hn2 (by omega) (by omega) (quo_x _ G _ v1 rfl) (quo_x _ G _ v2 rfl) k1 k2 w R
    · exact small_mp n d _ _ _ _ (-n).natAbs (-d).natAbs G _ g0 (by omega) (by omega) hG b1.1 b1.2 (by omega) b2.2 r1 r2 (by omega) (by omega) (by omega) (by omega) h (by omega) (by omega) (by omega) (quo_x _ G _ v1 rfl) (quo_x _ G _ v2 rfl) k1 k2 w R
  · exact absurd h hd
  · obtain ⟨G, hG⟩ : ∃ G, Nat.gcd n.natAbs d.natAbs = G := ⟨_, rfl⟩
    obtain ⟨g0, v1, v2, m1, m2⟩ := gcd_parts n d h G hG
    obtain ⟨r1, r2⟩ := ratB_cases _ _ _ m1 m2
    have b1 := quo_b n G (by omega) (by omega)
    have b2 := quo_b d G (by omega) (by omega)
    have hp := (Rat.divInt n d).den_pos
    by_cases hn2 : n < 0
    · exact small_pm n d _ _ _ _ n.natAbs d.natAbs G _ g0 (by omega) (by omega) hG b1.1 b1.2 (by omega) b2.2 r1 r2 (by omega) (by omega) (by omega) (by omega) h hn2 (by omega) (by omega) (quo_x _ G _ v1 rfl) (quo_x _ G _ v2 rfl) k1 k2 w R
    · exact small_pp n d _ _ _ _ n.natAbs d.natAbs G _ g0 (by omega) (by omega) hG b1.1 b1.2 (by omega) b2.2 r1 r2 (by omega) (by omega) (by omega) (by omega) h (by omega) (by omega) (by omega) (quo_x _ G _ v1 rfl) (quo_x _ G _ v2 rfl) k1 k2 w R
set_option maxRecDepth 100000 in
set_option maxHeartbeats 200000 in
theorem frac_short (a b r : ByteArray) (ha : (a.size : Int) ≤ 9) (hb' : (b.size : Int) ≤ 9) (hs : ∀ w, EnvR w → Calls Tryz.prog 78 #[.string a, .string b] w fun e w' => e = .returned (.string r) ∧ Below w.heap.size w w') (w : World) (R : EnvR w) :
    Calls Tryz.prog 26 #[.string a, .string b] w fun e w' => e = .returned (.string r) ∧ Below w.heap.size w w' := by
  have c1 : ∀ w, EnvR w → Calls Tryz.prog 78 #[.string a, .string b] w fun e w' => e = .returned (.string r) ∧ Below w.heap.size w w' := fun w R => hs w R
  have C1 := Lib.hid c1
  clear c1 hs
  have hb := Below.refl w.heap.size w
  go_enter Tryz.func26, Tryz.ntmps26
  go_wp2_with (go_at_call 78; ((with_reducible refine (chain hb (C1.out _ (R.below hb))).mono ?_); clear hb; rintro e w1 ⟨rfl, hb⟩))
  go_ret
  exact ⟨rfl, hb⟩
/-- The reference's quotient. -/
theorem refFrac_any (n d : Int) (w : World) (R : EnvR w) (hn : dlen n ≤ 2000) (hdl : dlen d ≤ 2000) (hd : d ≠ 0) :
    Calls Tryz.prog 26 #[.string (itoaB n), .string (itoaB d)] w fun e w' => e = .returned (.string (ratB (Rat.divInt n d))) ∧ Below w.heap.size w w' := by
  by_cases hs : (itoaB n).size ≤ 9 ∧ (itoaB d).size ≤ 9
  · exact frac_short _ _ _ (by omega) (by omega) (fun w R => refSmall2_any n d hs.1 hs.2 hd w R) w R
  · exact frac_long n d w R hn hdl hd hs
end Go.Proofs.YtgllflfifbacnaaGreatDoor.Kl
