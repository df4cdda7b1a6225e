/- Contracts: the program's power of pieces. -/
import Derived.Test.YtkekdcmonenciaaGreatDoorKlMulI
import Derived.Test.YtkekdcmonenciaaGreatDoorKlAdd2
import Derived.Test.YtkekdcmonenciaaGreatDoorKlRefMul
namespace Go.Proofs.YtkekdcmonenciaaGreatDoor.Kl
open Go Go.RowKit

theorem bitLenAux_lt : ∀ (f x : Nat), x < 2 ^ f → x < 2 ^ Lib.bitLenAux f x
  | 0, x, h => h
  | f + 1, x, h => by
    unfold Lib.bitLenAux
    by_cases h0 : x = 0
    · rw [if_pos h0, h0]; decide
    · rw [if_neg h0]
      have := bitLenAux_lt f (x / 2) (by rw [Nat.pow_succ] at h; omega)
      rw [Nat.add_comm, Nat.pow_succ]; omega
theorem bitLenAux_le : ∀ (f x : Nat), Lib.bitLenAux f x ≤ f
  | 0, _ => Nat.le_refl _
  | f + 1, x => by
    unfold Lib.bitLenAux; split
    · omega
    · have := bitLenAux_le f (x / 2); omega
theorem bitLen_zero (x : Nat) (h : x ≤ 1000000) : x / 2 ^ Lib.bitLen x = 0 := Nat.div_eq_of_lt (bitLenAux_lt 64 x (by omega))
theorem half_pow (X e b : Nat) : X ^ (e / 2 ^ b) = X ^ (e / 2 ^ (b + 1)) * X ^ (e / 2 ^ (b + 1)) * (if e / 2 ^ b % 2 = 1 then X else 1) := by
  have e1 : e / 2 ^ (b + 1) = e / 2 ^ b / 2 := by rw [Nat.pow_succ, Nat.div_div_eq_div_mul]
  rw [e1]
  obtain ⟨q, hq⟩ : ∃ q, e / 2 ^ b = q := ⟨_, rfl⟩
  rw [hq, ← Nat.pow_add]
  split
  · rw [← Nat.pow_succ]; congr 1; omega
  · rw [Nat.mul_one]; congr 1; omega
theorem i64_and1 (n : Int) : bits .and .i64 n 1 = n % 2 := by
  have h127 : (BitVec.ofInt 64 1).toNat = 2 ^ 1 - 1 := by decide
  have key : (BitVec.ofInt 64 n &&& BitVec.ofInt 64 1).toNat = (n % ((2 ^ 64 : Nat) : Int)).toNat % 2 ^ 1 := by
    rw [BitVec.toNat_and, BitVec.toNat_ofInt, h127, Nat.and_two_pow_sub_one_eq_mod]
  show IntKind.i64.wrap ((BitVec.ofInt 64 n &&& BitVec.ofInt 64 1).toNat : Nat) = n % 2
  rw [key, IntKind.wrap_i64]
  omega
theorem bit_test (e b : Nat) (r : Bool) (h : decide (e / 2 ^ b % 2 = 1) = r) : (bits BinOp.and IntKind.i64 ((e : Int) / 2 ^ b) 1 == 1) = r := by
  rw [i64_and1, ← h]
  have : ((e : Int) / 2 ^ b) = ((e / 2 ^ b : Nat) : Int) := by rw [Int.natCast_ediv, Int.natCast_pow]; rfl
  rw [this, Bool.eq_iff_iff, beq_iff_eq, decide_eq_true_iff]
  omega
theorem pcM_one : pcM 1 = [1] := by rw [pcM, dif_neg (by decide), pcM, dif_pos (by decide)]; rfl
set_option maxRecDepth 100000 in
set_option maxHeartbeats 2000000 in
theorem power_sm (p : Option Addr) (n c X e : Nat) (w : World) (h1 : Sm w p n c X) (he : e ≤ 5000) (hlen : ∀ k, k ≤ e → (pcM (X ^ k)).length ≤ 100000) (hX : (pcM X).length ≤ 100000) :
    Calls Tryz.prog 52 #[.slice p n c, .int .i64 e] w (RetP w (pcM (X ^ e))) := by
  have hbl := bitLen_zero e (by omega)
  have hbl2 := bitLenAux_le 64 e
  have c1 : ∀ w, Calls Tryz.prog 80 #[.int .u64 e] w fun e' w' => e' = .returned (.int .i64 (Lib.bitLen e)) ∧ w' = w := fun w => by
    have := Tryz.bits_Len e w (by omega) (by omega); rwa [show ((e : Nat) : Int).toNat = e by omega] at this
  change Lib.bitLen e ≤ 64 at hbl2
  obtain ⟨L, hL⟩ : ∃ L, Lib.bitLen e = L := ⟨_, rfl⟩
  rw [hL] at hbl hbl2 c1
  have C1 := Lib.hid c1
  have HBL := Lib.hid hbl
  have H1 := Lib.hid h1
  have HLEN := Lib.hid hlen
  have HX := Lib.hid hX
  have hone : Sm (w.alloc (.cells #[.int .i64 1] 3)) (some ⟨w.heap.size, 0, none⟩) 1 1 1 :=
    ⟨by rw [pcM_one]; rfl, Nat.le_refl _, by omega, (fun h => by cases h), by
      rw [pcM_one]
      refine Or.inr ⟨w.heap.size, 0, rfl, by simp, fun i hi => ?_⟩
      obtain rfl : i = 0 := by simpa using hi
      rw [World.cell?_alloc_new]; rfl⟩
  have HONE := Lib.hid hone
  have HB0 := Lib.hid ((Below.refl w.heap.size w).alloc (Nat.le_refl _) (.cells #[.int .i64 1] 3))
  clear c1 hbl h1 hlen hX hone hL
  go_enter Tryz.func52, Tryz.ntmps52
  go_wp2_with (go_at_call 80; refine (C1.out _).mono ?_; rintro e' w2 ⟨rfl, rfl⟩)
  go_loopw [5, 6] (fun rv bv wr => ∃ (j n2 c2 : Nat) (p2 : Option Addr), rv = .slice p2 n2 c2 ∧ bv = .int .i64 ((j : Int) - 1) ∧ j ≤ 64 ∧ Hid (Sm wr p2 n2 c2 (X ^ (e / 2 ^ j))) ∧ Below w.heap.size w wr) (fun _ bv _ => (intOf bv + 1).toNat)
  case atStart => exact ⟨L, 1, 1, _, rfl, rfl, hbl2, Lib.hid (by rw [HBL.out, Nat.pow_zero]; exact HONE.out), HB0.out⟩
  case round =>
    obtain ⟨j, n2, c2, p2, rfl, rfl, hj, HS, hb⟩ := hrel
    clear HONE HB0 C1
    by_cases h0 : j = 0
    · subst h0
      go_wp2
      go_ret
      have hs := HS.out
      rw [Nat.pow_zero, Nat.div_one] at hs
      exact ⟨p2, n2, c2, rfl, hs.len, hs.cap, hs.top, hs.nil, hs.has, hb⟩
    · obtain ⟨b, rfl⟩ : ∃ b, j = b + 1 := ⟨j - 1, by omega⟩
      have hk : (pcM (X ^ (e / 2 ^ (b + 1)))).length ≤ 100000 := HLEN.out _ (Nat.div_le_self _ _)
      have ct := times_sm HS.out HS.out hk hk
      have hhp := half_pow X e b
      obtain ⟨R, hR⟩ : ∃ R, X ^ (e / 2 ^ (b + 1)) = R := ⟨_, rfl⟩
      rw [hR] at ct hhp hk
      have hRR : R * R = X ^ (e / 2 ^ (b + 1) + e / 2 ^ (b + 1)) := by rw [Nat.pow_add, hR]
      have hle2 : e / 2 ^ (b + 1) + e / 2 ^ (b + 1) ≤ e := by
        have h1 : e / 2 ^ (b + 1) = e / 2 ^ b / 2 := by rw [Nat.pow_succ, Nat.div_div_eq_div_mul]
        have h2 := Nat.div_le_self e (2 ^ b)
        omega
      have HRR : Hid ((pcM (R * R)).length ≤ 100000) := Lib.hid (by rw [hRR]; exact HLEN.out _ hle2)
      have CT := Lib.hid ct
      have HHP := Lib.hid hhp
      have HK := Lib.hid hk
      have hHS : Hid (Sm wr p2 n2 c2 R) := Lib.hid (by rw [← hR]; exact HS.out)
      clear ct hhp hk HS hR hRR hle2
      have hb64 : (b : Int) < 64 := by omega
      by_cases hbit : e / 2 ^ b % 2 = 1
      · have hbt := bit_test e b true (decide_eq_true hbit)
        have hres : X ^ (e / 2 ^ b) = R * R * X := by rw [HHP.out, if_pos hbit]
        have HRES := Lib.hid hres
        clear hres hbit
        go_wp2_with (go_at_call 48; first | (with_reducible refine (chainM hb CT.out).mono ?_; clear hb; rintro e' w5 ⟨p5, n5, c5, rfl, hs5, hl5, hb⟩; have HS5 := Lib.hid hs5; have HL5 := Lib.hid hl5; clear hs5 hl5) | (refine (chainM hb (times_sm HS5.out (H1.out.below hb) HRR.out HX.out)).mono ?_; clear hb; rintro e' w6 ⟨p6, n6, c6, rfl, hs6, hl6, hb⟩; have HS6 := Lib.hid hs6; clear hs6 hl6))
        exact ⟨⟨b, n6, c6, p6, rfl, rfl, by omega, Lib.hid (by rw [HRES.out]; exact HS6.out), hb⟩, by simp [intOf]⟩
      · have hbt := bit_test e b false (decide_eq_false hbit)
        have hres : X ^ (e / 2 ^ b) = R * R := by rw [HHP.out, if_neg hbit, Nat.mul_one]
        have HRES := Lib.hid hres
        clear hres hbit
        go_wp2_with (go_at_call 48; first | (with_reducible refine (chainM hb CT.out).mono ?_; clear hb; rintro e' w5 ⟨p5, n5, c5, rfl, hs5, hl5, hb⟩; have HS5 := Lib.hid hs5; clear hs5 hl5))
        exact ⟨⟨b, n5, c5, p5, rfl, rfl, by omega, Lib.hid (by rw [HRES.out]; exact HS5.out), hb⟩, by simp [intOf]⟩

theorem sgI_pow {b : Bool} {X : Nat} {x : Int} (h : sgI b X = x) (n : Nat) : sgI (b && decide (n % 2 = 1)) (X ^ n) = x ^ n := by
  subst h
  cases b with
  | false => show ((X ^ n : Nat) : Int) = (X : Int) ^ n; rw [Int.natCast_pow]
  | true =>
    rw [sgI_t]
    have key : ∀ n : Nat, (-(X : Int)) ^ n = if n % 2 = 1 then -((X : Int) ^ n) else (X : Int) ^ n := fun n => by
      induction n with
      | zero => simp
      | succ n ih =>
        rw [Int.pow_succ, Int.pow_succ, ih]
        rcases Nat.mod_two_eq_zero_or_one n with h | h
        · rw [if_neg (by omega), if_pos (by omega), Int.mul_neg]
        · rw [if_pos h, if_neg (by omega), Int.neg_mul_neg]
    rw [key n]
    by_cases h : n % 2 = 1
    · rw [if_pos h, decide_eq_true h]; show -((X ^ n : Nat) : Int) = _; rw [Int.natCast_pow]
    · rw [if_neg h, decide_eq_false h]; show ((X ^ n : Nat) : Int) = _; rw [Int.natCast_pow]
theorem dec_pow_len (N K : Nat) (h : (Lib.decDigits N).length ≤ K) : ∀ n, (Lib.decDigits (N ^ n)).length ≤ K * n + 1
  | 0 => by rw [Nat.pow_zero, show Lib.decDigits 1 = [49] by rw [Lib.decDigits]; rfl]; simp
  | n + 1 => by
    have a := Nat.lt_of_lt_of_le (dig_lt N) (Nat.pow_le_pow_right (by decide) h)
    refine dec_len_le _ _ ?_ (by omega)
    have b : N ^ (n + 1) ≤ (10 ^ K) ^ (n + 1) := Nat.pow_le_pow_left (Nat.le_of_lt a) _
    rw [← Nat.pow_mul] at b
    have c : 10 ^ (K * (n + 1)) < 10 ^ (K * (n + 1) + 1) := Nat.pow_lt_pow_right (by decide) (Nat.lt_succ_self _)
    omega
set_option maxRecDepth 100000 in
set_option maxHeartbeats 2000000 in
theorem power_neg (x n : Int) (w : World) (hn : n < 0) :
    Calls Tryz.prog 19 #[.string (itoaB x), .int .i64 n] w fun e w' => e = .returned (.tuple #[.string ⟨#[]⟩, .int .i64 3]) ∧ Below w.heap.size w w' := by
  go_enter Tryz.func19, Tryz.ntmps19
  go_wp2
  go_ret2
  exact ⟨rfl, Below.refl _ _⟩
set_option maxRecDepth 100000 in
set_option maxHeartbeats 2000000 in
theorem power_big (x n : Int) (w : World) (hx : dlen x ≤ 5000) (hn : (5000 : Int) / dlen x < n) :
    Calls Tryz.prog 19 #[.string (itoaB x), .int .i64 n] w fun e w' => e = .returned (.tuple #[.string ⟨#[]⟩, .int .i64 4]) ∧ Below w.heap.size w w' := by
  have k1 : ∀ w, Calls Tryz.prog 51 #[.string (itoaB x)] w fun e w' => e = .returned (.string (magB (itoaB x))) ∧ w = w' := fun w => magnitude_any _ w
  have hd : (magB (itoaB x)).size = dlen x := magB_dlen x
  have hd0 : 0 < dlen x := List.length_pos_iff.2 (decDigits_ne x.natAbs)
  obtain ⟨D, hD⟩ : ∃ D, dlen x = D := ⟨_, rfl⟩
  rw [hD] at hd hd0 hx hn
  have h0 : ¬ n < 0 := by have : 0 ≤ (5000 : Int) / D := Int.ediv_nonneg (by decide) (by omega); omega
  obtain ⟨m, hm⟩ : ∃ m, magB (itoaB x) = m := ⟨_, rfl⟩
  rw [hm] at k1 hd
  obtain ⟨a, ha⟩ : ∃ a, itoaB x = a := ⟨_, rfl⟩
  rw [ha] at k1 ⊢
  have hmx : max (1 : Int) (m.size : Int) = (D : Int) := by omega
  have K1 := Lib.hid k1
  have hDi : (0 : Int) < (D : Int) := by omega
  have hq0 : 0 ≤ (5000 : Int) / D := Int.ediv_nonneg (by decide) (by omega)
  have hq1 : (5000 : Int) / D ≤ 5000 := Int.ediv_le_self _ (by decide)
  have hq : wrap64 ((5000 : Int) / (D : Int)) = 5000 / (D : Int) := IntWalk.wrap64_in _ ⟨by omega, by omega⟩
  clear k1 ha hm hD hd
  go_enter Tryz.func19, Tryz.ntmps19
  go_wp2_with (go_at_call 51; refine (K1.out _).mono ?_; rintro e w1 ⟨rfl, rfl⟩)
  go_ret2
  exact ⟨rfl, Below.refl _ _⟩

theorem power_len (x : Int) (D e : Nat) (hD : dlen x = D) (he : D * e ≤ 5000) : ∀ k, k ≤ e → (pcM (x.natAbs ^ k)).length ≤ 100000 := fun k hk => by
  have h1 := dec_pow_len x.natAbs D (by unfold dlen at hD; omega) k
  have h2 : D * k ≤ D * e := Nat.mul_le_mul_left _ hk
  have := pcM_len_dec (x.natAbs ^ k) 5001 (by omega)
  omega
set_option maxRecDepth 100000 in
set_option maxHeartbeats 4000000 in
theorem power_ok (x : Int) (e : Nat) (w : World) (E : Env w) (hx : dlen x ≤ 5000) (he : dlen x * e ≤ 5000) :
    Calls Tryz.prog 19 #[.string (itoaB x), .int .i64 e] w fun e' w' => e' = .returned (.tuple #[.string (itoaB (x ^ e)), .int .i64 0]) ∧ Below w.heap.size w w' := by
  have k1 : ∀ w, Calls Tryz.prog 51 #[.string (itoaB x)] w fun e w' => e = .returned (.string (magB (itoaB x))) ∧ w = w' := fun w => magnitude_any _ w
  have r1 : ∀ w, Calls Tryz.prog 38 #[.string (itoaB x)] w (RetN w x) := fun w => read_itoa x w (by omega)
  have hd : (magB (itoaB x)).size = dlen x := magB_dlen x
  have hd0 : 0 < dlen x := List.length_pos_iff.2 (decDigits_ne x.natAbs)
  obtain ⟨D, hD⟩ : ∃ D, dlen x = D := ⟨_, rfl⟩
  have hlen := power_len x D e hD (by rw [hD] at he; exact he)
  rw [hD] at hd hd0 hx he
  have he5 : e ≤ 5000 := by
    have : 1 * e ≤ D * e := Nat.mul_le_mul_right _ hd0
    omega
  have hX : (pcM x.natAbs).length ≤ 100000 := pcM_len_z x (by omega)
  have hq0 : 0 ≤ (5000 : Int) / D := Int.ediv_nonneg (by decide) (by omega)
  have hq1 : (5000 : Int) / D ≤ 5000 := Int.ediv_le_self _ (by decide)
  have hn : (e : Int) ≤ (5000 : Int) / D := by
    rw [Int.le_ediv_iff_mul_le (by omega)]
    have : ((e * D : Nat) : Int) ≤ 5000 := by rw [Nat.mul_comm]; omega
    rwa [Int.natCast_mul] at this
  have h0 : ¬ (e : Int) < 0 := by omega
  obtain ⟨m, hm⟩ : ∃ m, magB (itoaB x) = m := ⟨_, rfl⟩
  rw [hm] at k1 hd
  obtain ⟨a, ha⟩ : ∃ a, itoaB x = a := ⟨_, rfl⟩
  rw [ha] at k1 r1 ⊢
  have hmx : max (1 : Int) (m.size : Int) = (D : Int) := by omega
  have K1 := Lib.hid k1
  have R1 := Lib.hid r1
  have HLEN := Lib.hid hlen
  have HX := Lib.hid hX
  have hDi : (0 : Int) < (D : Int) := by omega
  have hq : wrap64 ((5000 : Int) / (D : Int)) = 5000 / (D : Int) := IntWalk.wrap64_in _ ⟨by omega, by omega⟩
  have hb := Below.refl w.heap.size w
  have hrem : (e : Int).tmod 2 = (e : Int) % 2 := Int.tmod_eq_emod_of_nonneg (by omega)
  have hpar : ((e : Int) % 2 == 1) = decide (e % 2 = 1) := by rw [Bool.eq_iff_iff, beq_iff_eq, decide_eq_true_iff]; omega
  clear k1 r1 ha hm hD hd hlen hX he
  go_enter Tryz.func19, Tryz.ntmps19
  go_wp2_with (first | (go_at_call 51; refine (K1.out _).mono ?_; rintro e w1 ⟨rfl, rfl⟩) | (go_at_call 38; refine (chainN hb (R1.out _)).mono ?_; clear hb; rintro e' w2 ⟨b1, p1, n1, c1, rfl, hs1, hb⟩; refine Hid.out ?_))
  refine Lib.hid ?_
  have hsg := sgI_pow hs1.out.2.1 e
  cases b1 with
  | false =>
    have SG : Hid (sgI false (x.natAbs ^ e) = x ^ e) := Lib.hid hsg
    have HBA := Lib.hid (hb.alloc hb.size (Obj.cells #[Value.bool false, Value.slice p1 n1 c1] 54))
    have pw := power_sm p1 n1 c1 x.natAbs e _ (hs1.out.1.below ((Below.refl _ _).alloc (Nat.le_refl _) (Obj.cells #[Value.bool false, Value.slice p1 n1 c1] 54))) he5 HLEN.out HX.out
    have PW := Lib.hid pw
    clear hsg pw hb
    go_wp2_with (first | (go_at_call 52; refine PW.out.mono ?_; rintro e' w5 ⟨p5, n5, c5, rfl, hr5⟩; have HS5 := Lib.hid (show Sm w5 p5 n5 c5 (x.natAbs ^ e) from ⟨hr5.1, hr5.2.1, hr5.2.2.1, hr5.2.2.2.1, hr5.2.2.2.2.1⟩); have HB5 := Lib.hid (HBA.out.trans (hr5.2.2.2.2.2.mono HBA.out.size)); clear hr5) | (go_at_call 40; refine (chain HB5.out (text_z (E.below HB5.out) HS5.out SG.out (HLEN.out e (Nat.le_refl _)))).mono ?_; rintro e' w6 ⟨rfl, hb⟩))
    go_ret2
    exact ⟨rfl, hb⟩
  | true =>
    have SG : Hid (sgI (decide (e % 2 = 1)) (x.natAbs ^ e) = x ^ e) := Lib.hid hsg
    have HBA := Lib.hid (hb.alloc hb.size (Obj.cells #[Value.bool true, Value.slice p1 n1 c1] 54))
    have pw := power_sm p1 n1 c1 x.natAbs e _ (hs1.out.1.below ((Below.refl _ _).alloc (Nat.le_refl _) (Obj.cells #[Value.bool true, Value.slice p1 n1 c1] 54))) he5 HLEN.out HX.out
    have PW := Lib.hid pw
    clear hsg pw hb
    obtain ⟨od, hod⟩ : ∃ od, decide (e % 2 = 1) = od := ⟨_, rfl⟩
    rw [hod] at hpar SG
    clear hod
    cases od <;> (go_wp2_with (first | (go_at_call 52; refine PW.out.mono ?_; rintro e' w5 ⟨p5, n5, c5, rfl, hr5⟩; have HS5 := Lib.hid (show Sm w5 p5 n5 c5 (x.natAbs ^ e) from ⟨hr5.1, hr5.2.1, hr5.2.2.1, hr5.2.2.2.1, hr5.2.2.2.2.1⟩); have HB5 := Lib.hid (HBA.out.trans (hr5.2.2.2.2.2.mono HBA.out.size)); clear hr5) | (go_at_call 40; refine (chain HB5.out (text_z (E.below HB5.out) HS5.out SG.out (HLEN.out e (Nat.le_refl _)))).mono ?_; rintro e' w6 ⟨rfl, hb⟩)); go_ret2; exact ⟨rfl, hb⟩)

set_option maxRecDepth 100000 in
set_option maxHeartbeats 2000000 in
/-- The reference's power, up to the exponent 25. -/
theorem refPower_any (x : Int) (e : Nat) (w : World) (E : Env w) (he : e ≤ 25) (hx : dlen x ≤ 300) :
    Calls Tryz.prog 21 #[.string (itoaB x), .int .i64 e] w fun e' w' => e' = .returned (.string (itoaB (x ^ e))) ∧ Below w.heap.size w w' := by
  have hl : ∀ k, k ≤ 25 → dlen (x ^ k) ≤ 8000 := fun k hk => by
    have h1 := dec_pow_len x.natAbs 300 (by unfold dlen at hx; exact hx) k
    unfold dlen; rw [Int.natAbs_pow]; omega
  have m1 : ∀ k w, k ≤ 25 → Env w → Calls Tryz.prog 18 #[.string (itoaB (x ^ k)), .string (itoaB x)] w fun e w' => e = .returned (.string (itoaB (x ^ (k + 1)))) ∧ Below w.heap.size w w' := fun k w hk E => by
    rw [Int.pow_succ]; exact refMul_any (x ^ k) x w E (by have := hl k hk; omega) (by omega)
  have h1 : (⟨#[49]⟩ : ByteArray) = itoaB (x ^ 0) := by
    rw [Int.pow_zero]; unfold itoaB; rw [itoa_nat 1 (by decide), show (1 : Int).toNat = 1 by rfl, show Lib.decDigits 1 = [49] by rw [Lib.decDigits]; rfl]; rfl
  have M1 := Lib.hid m1
  have H1 := Lib.hid h1
  obtain ⟨a, ha⟩ : ∃ a, itoaB x = a := ⟨_, rfl⟩
  rw [ha] at M1 ⊢
  clear m1 h1 ha hl hx
  go_enter Tryz.func21, Tryz.ntmps21
  go_wp2
  go_loopw [5, 6] (fun ov iv2 wr => ∃ (k : Nat) (o : ByteArray), ov = .string o ∧ iv2 = .int .i64 k ∧ k ≤ e ∧ Hid (o = itoaB (x ^ k)) ∧ Below w.heap.size w wr) (fun _ iv2 _ => e - (intOf iv2).toNat)
  case atStart => exact ⟨0, _, rfl, rfl, Nat.zero_le _, H1, Below.refl _ _⟩
  case round =>
    obtain ⟨k, o, rfl, rfl, hk, HO, hb⟩ := hrel
    by_cases hlt : k < e
    · have hlt' : (k : Int) < (e : Int) := by omega
      have cm : Calls Tryz.prog 18 #[.string o, .string a] wr fun e w' => e = .returned (.string (itoaB (x ^ (k + 1)))) ∧ Below wr.heap.size wr w' := by
        rw [HO.out]; exact M1.out k wr (by omega) (E.below hb)
      have CM := Lib.hid cm
      obtain ⟨r, hr⟩ : ∃ r, itoaB (x ^ (k + 1)) = r := ⟨_, rfl⟩
      rw [hr] at CM
      have HR := Lib.hid hr.symm
      have hk1 : k + 1 ≤ e := by omega
      have hms : e - (k + 1) < e - k := by omega
      clear cm hr
      go_wp2_with (go_at_call 18; refine (chain hb CM.out).mono ?_; clear hb; rintro e' w5 ⟨rfl, hb⟩)
      exact ⟨⟨k + 1, r, rfl, by go_num, hk1, HR, hb⟩, hms⟩
    · obtain rfl : k = e := by omega
      go_wp2
      go_ret
      exact ⟨retS HO.out, hb⟩
end Go.Proofs.YtkekdcmonenciaaGreatDoor.Kl
