/- Contracts: package rational's Decimal. -/
import Derived.Test.YtgllflfifbacnaaGreatDoorKlRatF
import Derived.Test.YtgllflfifbacnaaGreatDoorKlRatT
import Derived.Test.YtgllflfifbacnaaGreatDoorKlRatC
namespace Go.Proofs.YtgllflfifbacnaaGreatDoor.Kl
open Go Go.RowKit

set_option maxRecDepth 100000 in
set_option maxHeartbeats 1000000 in
theorem decimal_zero (s z n0 dg sg : ByteArray)  (hz : z.size ≤ 100) (hdg : dg.size ≤ 100000) (hsg : sg.size ≤ 10) (c1' : ∀ w, EnvR w → Calls Tryz.prog 27 #[.string ⟨#[48]⟩, .int .i64 0] w fun e w' => e = .returned (.string z) ∧ Below w.heap.size w w') (c2' : ∀ w, EnvR w → Calls Tryz.prog 94 #[.string s, .string (⟨#[49]⟩ ++ z)] w fun e w' => e = .returned (.string n0) ∧ Below w.heap.size w w') (c3' : ∀ w, EnvR w → Calls Tryz.prog 95 #[.string n0] w fun e w' => e = .returned (.string dg) ∧ Below w.heap.size w w') (c4' : ∀ w, EnvR w → Calls Tryz.prog 96 #[.string n0, .string dg] w fun e w' => e = .returned (.string sg) ∧ Below w.heap.size w w') (w : World) (R : EnvR w) :
    Calls Tryz.prog 31 #[.string s, .int .i64 0] w fun e w' => e = .returned (.tuple #[.string (sg ++ dg), .int .i64 0]) ∧ Below w.heap.size w w' := by
  have c1 : ∀ w, EnvR w → Calls Tryz.prog 27 #[.string ⟨#[48]⟩, .int .i64 0] w fun e w' => e = .returned (.string z) ∧ Below w.heap.size w w' := fun w R => c1' w R
  have c2 : ∀ w, EnvR w → Calls Tryz.prog 94 #[.string s, .string (⟨#[49]⟩ ++ z)] w fun e w' => e = .returned (.string n0) ∧ Below w.heap.size w w' := fun w R => c2' w R
  have c3 : ∀ w, EnvR w → Calls Tryz.prog 95 #[.string n0] w fun e w' => e = .returned (.string dg) ∧ Below w.heap.size w w' := fun w R => c3' w R
  have c4 : ∀ w, EnvR w → Calls Tryz.prog 96 #[.string n0, .string dg] w fun e w' => e = .returned (.string sg) ∧ Below w.heap.size w w' := fun w R => c4' w R
  have C1 := Lib.hid c1
  have C2 := Lib.hid c2
  have C3 := Lib.hid c3
  have C4 := Lib.hid c4
  clear c1 c2 c3 c4 c1' c2' c3' c4'
  have hb := Below.refl w.heap.size w
  go_enter Tryz.func31, Tryz.ntmps31
  go_wp2_with (first | (go_at_call 27; ((with_reducible refine (chain hb (C1.out _ (R.below hb))).mono ?_); clear hb; rintro e w1 ⟨rfl, hb⟩)) | (go_at_call 94; ((with_reducible refine (chain hb (C2.out _ (R.below hb))).mono ?_); clear hb; rintro e w1 ⟨rfl, hb⟩)) | (go_at_call 95; ((with_reducible refine (chain hb (C3.out _ (R.below hb))).mono ?_); clear hb; rintro e w1 ⟨rfl, hb⟩)) | (go_at_call 96; ((with_reducible refine (chain hb (C4.out _ (R.below hb))).mono ?_); clear hb; rintro e w1 ⟨rfl, hb⟩)))
  go_ret2
  exact ⟨rfl, hb⟩
set_option maxRecDepth 100000 in
set_option maxHeartbeats 1000000 in
theorem decimal_more (s z n0 dg sg z2 a b : ByteArray) (p K : Nat) (hp0 : 1 ≤ p) (hp1 : p ≤ 12) (hz2 : z2.size ≤ 100) (hKb : K ≤ 200000) (hK : (z2 ++ dg).size = K + p) (ha : (z2 ++ dg).extract 0 K = a) (hb' : (z2 ++ dg).extract K (K + p) = b) (has : a.size ≤ 100200) (hbs : b.size ≤ 100200) (hz : z.size ≤ 100) (hdg : dg.size ≤ 100000) (hsg : sg.size ≤ 10) (c1' : ∀ w, EnvR w → Calls Tryz.prog 27 #[.string ⟨#[48]⟩, .int .i64 (p : Int)] w fun e w' => e = .returned (.string z) ∧ Below w.heap.size w w') (c2' : ∀ w, EnvR w → Calls Tryz.prog 94 #[.string s, .string (⟨#[49]⟩ ++ z)] w fun e w' => e = .returned (.string n0) ∧ Below w.heap.size w w') (c3' : ∀ w, EnvR w → Calls Tryz.prog 95 #[.string n0] w fun e w' => e = .returned (.string dg) ∧ Below w.heap.size w w') (c4' : ∀ w, EnvR w → Calls Tryz.prog 96 #[.string n0, .string dg] w fun e w' => e = .returned (.string sg) ∧ Below w.heap.size w w') (c5' : ∀ w, EnvR w → Calls Tryz.prog 27 #[.string ⟨#[48]⟩, .int .i64 (max 0 ((p : Int) + 1 - (dg.size : Int)))] w fun e w' => e = .returned (.string z2) ∧ Below w.heap.size w w') (w : World) (R : EnvR w) :
    Calls Tryz.prog 31 #[.string s, .int .i64 (p : Int)] w fun e w' => e = .returned (.tuple #[.string (sg ++ a ++ ⟨#[46]⟩ ++ b), .int .i64 0]) ∧ Below w.heap.size w w' := by
  have c1 : ∀ w, EnvR w → Calls Tryz.prog 27 #[.string ⟨#[48]⟩, .int .i64 (p : Int)] w fun e w' => e = .returned (.string z) ∧ Below w.heap.size w w' := fun w R => c1' w R
  have c2 : ∀ w, EnvR w → Calls Tryz.prog 94 #[.string s, .string (⟨#[49]⟩ ++ z)] w fun e w' => e = .returned (.string n0) ∧ Below w.heap.size w w' := fun w R => c2' w R
  have c3 : ∀ w, EnvR w → Calls Tryz.prog 95 #[.string n0] w fun e w' => e = .returned (.string dg) ∧ Below w.heap.size w w' := fun w R => c3' w R
  have c4 : ∀ w, EnvR w → Calls Tryz.prog 96 #[.string n0, .string dg] w fun e w' => e = .returned (.string sg) ∧ Below w.heap.size w w' := fun w R => c4' w R
  have c5 : ∀ w, EnvR w → Calls Tryz.prog 27 #[.string ⟨#[48]⟩, .int .i64 (max 0 ((p : Int) + 1 - (dg.size : Int)))] w fun e w' => e = .returned (.string z2) ∧ Below w.heap.size w w' := fun w R => c5' w R
  have C1 := Lib.hid c1
  have C2 := Lib.hid c2
  have C3 := Lib.hid c3
  have C4 := Lib.hid c4
  have C5 := Lib.hid c5
  clear c1 c2 c3 c4 c5 c1' c2' c3' c4' c5'
  have hb := Below.refl w.heap.size w
  go_enter Tryz.func31, Tryz.ntmps31
  go_wp2_with (first | (go_at_call 27; first | ((with_reducible refine (chain hb (C1.out _ (R.below hb))).mono ?_); clear hb; rintro e w1 ⟨rfl, hb⟩) | ((with_reducible refine (chain hb (C5.out _ (R.below hb))).mono ?_); clear hb; rintro e w1 ⟨rfl, hb⟩)) | (go_at_call 94; ((with_reducible refine (chain hb (C2.out _ (R.below hb))).mono ?_); clear hb; rintro e w1 ⟨rfl, hb⟩)) | (go_at_call 95; ((with_reducible refine (chain hb (C3.out _ (R.below hb))).mono ?_); clear hb; rintro e w1 ⟨rfl, hb⟩)) | (go_at_call 96; ((with_reducible refine (chain hb (C4.out _ (R.below hb))).mono ?_); clear hb; rintro e w1 ⟨rfl, hb⟩)))
  go_quiet (fail)
  go_wp2
  go_ret2
  exact ⟨rfl, Below.drews hb _⟩
/-- The text with p decimal places of n parts of 10 to the p. -/
def decS (n : Int) (p : Nat) : List UInt8 :=
  let dg := Lib.decDigits n.natAbs
  let sg : List UInt8 := if n < 0 then [45] else []
  if p = 0 then sg ++ dg else
  let D := List.replicate (p + 1 - dg.length) (48 : UInt8) ++ dg
  sg ++ D.take (D.length - p) ++ [46] ++ D.drop (D.length - p)
theorem trim_sign (n : Int) : Lib.trimSuffix (Lib.itoa n) (Lib.decDigits n.natAbs) = if n < 0 then [45] else [] := by
  by_cases h : n < 0
  · have e : Lib.itoa n = [45] ++ Lib.decDigits n.natAbs := by unfold Lib.itoa; rw [if_pos h]; rfl
    rw [if_pos h, e]
    unfold Lib.trimSuffix
    rw [if_pos (by simp [Lib.hasSuffix]), List.length_append]
    simp
  · have e : Lib.itoa n = Lib.decDigits n.natAbs := by unfold Lib.itoa; rw [if_neg h, show n.toNat = n.natAbs by omega]
    rw [if_neg h, e]
    unfold Lib.trimSuffix
    rw [if_pos (by simp [Lib.hasSuffix])]
    simp
theorem val_zeros : ∀ (p : Nat) (a : Nat), valFrom a (List.replicate p 48) = a * 10 ^ p
  | 0, a => by simp [valFrom]
  | p + 1, a => by
    rw [List.replicate_succ, valFrom_cons, val_zeros p, Nat.pow_succ]
    show (a * 10 + (48 - 48)) * 10 ^ p = _
    rw [Nat.sub_self, Nat.add_zero, Nat.mul_assoc, Nat.mul_comm 10]
theorem dec_pow (p : Nat) : Lib.decDigits (10 ^ p) = 49 :: List.replicate p 48 := by
  have hv : val (49 :: List.replicate p 48) = 10 ^ p := by
    unfold val; rw [valFrom_cons, val_zeros]
    show (0 * 10 + (49 - 48)) * 10 ^ p = _
    simp
  have := dec_of_canon (m := 49 :: List.replicate p 48) (by
    rw [List.all_cons, Bool.and_eq_true]
    refine ⟨by decide, List.all_eq_true.2 fun c hc => ?_⟩
    rw [(List.mem_replicate.1 hc).2]; decide) (by simp) (fun h => by simp at h)
  rw [hv] at this
  exact this.symm
theorem pow_text (p : Nat) : (⟨#[49]⟩ : ByteArray) ++ strOf (List.replicate p 48) = itoaB ((10 ^ p : Nat) : Int) := by
  refine dat_inj ?_
  rw [cat_data]
  show [49] ++ List.replicate p 48 = Lib.itoa ((10 ^ p : Nat) : Int)
  rw [itoa_nat _ (Int.natCast_nonneg _), Int.toNat_natCast, dec_pow]; rfl
theorem abs_text (n : Int) : itoaB (n.natAbs : Int) = strOf (Lib.decDigits n.natAbs) := by
  unfold itoaB; rw [itoa_nat _ (by omega)]; rfl
/-- The text of a number with some decimal places. -/
theorem rdecimal_any (q : Rat) (p : Nat) (hp : p ≤ 12) (hq : RL q 10000) (w : World) (R : EnvR w) :
    Calls Tryz.prog 31 #[.string (ratB q), .int .i64 (p : Int)] w fun e w' => e = .returned (.tuple #[.string (strOf (decS (q * (((10 ^ p : Nat) : Int) : Rat) + Rat.divInt 1 2).floor p)), .int .i64 0]) ∧ Below w.heap.size w w' := by
  obtain ⟨n, hn⟩ : ∃ n, (q * (((10 ^ p : Nat) : Int) : Rat) + Rat.divInt 1 2).floor = n := ⟨_, rfl⟩
  have hg : dlen ((10 ^ p : Nat) : Int) ≤ 100 := by
    unfold dlen; rw [Int.natAbs_natCast, dec_pow]; simp; omega
  have hnl : dlen n ≤ 10200 := by rw [← hn]; exact near_dlen q _ hq hg
  have c1 : ∀ w, EnvR w → Calls Tryz.prog 27 #[.string ⟨#[48]⟩, .int .i64 (p : Int)] w fun e w' => e = .returned (.string (strOf (List.replicate p 48))) ∧ Below w.heap.size w w' := fun w _ => repeat_call p (by omega) w
  have c2 : ∀ w, EnvR w → Calls Tryz.prog 94 #[.string (ratB q), .string (⟨#[49]⟩ ++ strOf (List.replicate p 48))] w fun e w' => e = .returned (.string (itoaB n)) ∧ Below w.heap.size w w' := fun w R => by
    rw [pow_text, ← hn]; exact nearest_any q _ hq hg w R
  have c3 : ∀ w, EnvR w → Calls Tryz.prog 95 #[.string (itoaB n)] w fun e w' => e = .returned (.string (strOf (Lib.decDigits n.natAbs))) ∧ Below w.heap.size w w' := fun w _ => by
    have := abs_any n w; rwa [abs_text] at this
  have c4 : ∀ w, EnvR w → Calls Tryz.prog 96 #[.string (itoaB n), .string (strOf (Lib.decDigits n.natAbs))] w fun e w' => e = .returned (.string (strOf (if n < 0 then [45] else []))) ∧ Below w.heap.size w w' := fun w _ => by
    have hz := itoaB_size n (Nat.le_trans hnl (by decide))
    refine (Tryz.strings_TrimSuffix (itoaB n) (strOf (Lib.decDigits n.natAbs)) w (by omega)).mono ?_
    rintro e w' ⟨he, rfl⟩
    refine ⟨?_, Below.refl _ _⟩
    rw [he, ← trim_sign]; rfl
  have hdl : (Lib.decDigits n.natAbs).length ≤ 10200 := hnl
  have z1 : (strOf (List.replicate p (48 : UInt8))).size ≤ 100 := by rw [strOf_size, List.length_replicate]; omega
  have z2 : (strOf (Lib.decDigits n.natAbs)).size ≤ 100000 := by rw [strOf_size]; omega
  have z3 : (strOf (if n < 0 then [(45 : UInt8)] else [])).size ≤ 10 := by rw [strOf_size]; split <;> decide
  rw [hn]
  by_cases h0 : p = 0
  · subst h0
    have e : strOf (decS n 0) = strOf (if n < 0 then [45] else []) ++ strOf (Lib.decDigits n.natAbs) := dat_inj (by rw [cat_data]; rfl)
    rw [e]
    exact decimal_zero (ratB q) _ _ _ _ z1 z2 z3 c1 c2 c3 c4 w R
  · obtain ⟨m, hm⟩ : ∃ m, p + 1 - (Lib.decDigits n.natAbs).length = m := ⟨_, rfl⟩
    have c5 : ∀ w, EnvR w → Calls Tryz.prog 27 #[.string ⟨#[48]⟩, .int .i64 (max 0 ((p : Int) + 1 - ((strOf (Lib.decDigits n.natAbs)).size : Int)))] w fun e w' => e = .returned (.string (strOf (List.replicate m 48))) ∧ Below w.heap.size w w' := fun w _ => by
      rw [strOf_size, show max 0 ((p : Int) + 1 - ((Lib.decDigits n.natAbs).length : Int)) = (m : Int) by omega]
      exact repeat_call m (by omega) w
    obtain ⟨D, hD⟩ : ∃ D, List.replicate m (48 : UInt8) ++ Lib.decDigits n.natAbs = D := ⟨_, rfl⟩
    have hDl : D.length = m + (Lib.decDigits n.natAbs).length := by rw [← hD, List.length_append, List.length_replicate]
    have hDb : strOf (List.replicate m 48) ++ strOf (Lib.decDigits n.natAbs) = strOf D := dat_inj (by rw [cat_data, ← hD]; rfl)
    have hpos := List.length_pos_iff.2 (decDigits_ne n.natAbs)
    have e : strOf (decS n p) = strOf (if n < 0 then [45] else []) ++ strOf (D.take (D.length - p)) ++ ⟨#[46]⟩ ++ strOf (D.drop (D.length - p)) := by
      refine dat_inj ?_
      rw [cat_data, cat_data, cat_data]
      show decS n p = _
      unfold decS
      dsimp only
      rw [if_neg h0, hm, hD]; rfl
    rw [e]
    refine decimal_more (ratB q) _ _ _ _ (strOf (List.replicate m 48)) _ _ p (D.length - p) (by omega) hp (by rw [strOf_size, List.length_replicate]; omega) (by omega) (by rw [hDb, strOf_size]; omega) ?_ ?_ ?_ ?_ z1 z2 z3 c1 c2 c3 c4 c5 w R
    · rw [hDb]; refine dat_inj ?_
      rw [← Lib.toList_data, Lib.extract_toList]
      show (D.drop 0).take (D.length - p - 0) = D.take (D.length - p)
      rw [List.drop_zero, Nat.sub_zero]
    · rw [hDb]; refine dat_inj ?_
      rw [← Lib.toList_data, Lib.extract_toList]
      show (D.drop (D.length - p)).take (D.length - p + p - (D.length - p)) = D.drop (D.length - p)
      rw [List.take_of_length_le (by rw [List.length_drop]; omega)]
    · rw [strOf_size, List.length_take]; omega
    · rw [strOf_size, List.length_drop]; omega
end Go.Proofs.YtgllflfifbacnaaGreatDoor.Kl
/- The chapter's examples, which every statement of layer 2 checks first, are as the chapter says: 'known' returns true. -/
namespace Go.Proofs.YtgllflfifbacnaaGreatDoor.Kl
open Go Go.RowKit

theorem q_a : ratB (Rat.divInt 6 (-4)) = ⟨#[45, 51, 47, 50]⟩ := by decide +kernel
theorem q_b : ratB (Rat.divInt 250 100) = ⟨#[53, 47, 50]⟩ := by decide +kernel
theorem q_c : ratB (Rat.divInt 2 3) = ⟨#[50, 47, 51]⟩ := by decide +kernel
theorem q_d : ratB (Rat.divInt 9 4) = ⟨#[57, 47, 52]⟩ := by decide +kernel
theorem q_e : ratB (Rat.divInt 6 (-4) + Rat.divInt 250 100) = ⟨#[49]⟩ := by decide +kernel
theorem retSB {a b : ByteArray} {x y : Bool} (h : a = b) (g : x = y) : Ending.returned (.tuple #[.string a, .bool x]) = .returned (.tuple #[.string b, .bool y]) := by rw [h, g]
theorem known2_of (w : World) (R : EnvR w) : Calls Tryz.prog 23 #[.int .i64 6, .int .i64 (-4)] w fun e w' => e = .returned (.tuple #[.string ⟨#[45, 51, 47, 50]⟩, .int .i64 0]) ∧ Below w.heap.size w w' := by
  have := rof_any 6 (-4) (by decide) (by decide) (by decide) (by decide) (by decide) w R
  rwa [q_a] at this
theorem known2_add (w : World) (R : EnvR w) : Calls Tryz.prog 42 #[.string ⟨#[45, 51, 47, 50]⟩, .string ⟨#[53, 47, 50]⟩] w fun e w' => e = .returned (.string ⟨#[49]⟩) ∧ Below w.heap.size w w' := by
  have := radd_any (Rat.divInt 6 (-4)) (Rat.divInt 250 100) (by unfold RL; decide +kernel) (by unfold RL; decide +kernel) w R
  rwa [q_e, q_a, q_b] at this
theorem known2_root (w : World) (R : EnvR w) : Calls Tryz.prog 58 #[.string ⟨#[57, 47, 52]⟩] w fun e w' => e = .returned (.tuple #[.string ⟨#[51, 47, 50]⟩, .bool true]) ∧ Below w.heap.size w w' := by
  have := rroot_any (Rat.divInt 9 4) w R (by unfold RL; decide +kernel)
  rw [q_d] at this
  refine this.mono fun e w' h => ⟨h.1.trans ?_, h.2⟩
  exact retSB (by decide +kernel) (by decide +kernel)
theorem known2_decimal (w : World) (R : EnvR w) : Calls Tryz.prog 31 #[.string ⟨#[50, 47, 51]⟩, .int .i64 3] w fun e w' => e = .returned (.tuple #[.string ⟨#[48, 46, 54, 54, 55]⟩, .int .i64 0]) ∧ Below w.heap.size w w' := by
  have := rdecimal_any (Rat.divInt 2 3) 3 (by decide) (by unfold RL; decide +kernel) w R
  rw [q_c] at this
  refine this.mono fun e w' h => ⟨h.1.trans ?_, h.2⟩
  exact retSI (by decide +kernel) rfl
theorem known2_int1 (w : World) : Calls Tryz.prog 90 #[.string (⟨#[]⟩ ++ ⟨#[50, 53, 48]⟩)] w fun e w' => e = .returned (.tuple #[.string ⟨#[50, 53, 48]⟩, .int .i64 0]) ∧ Below w.heap.size w w' := by
  rw [show (⟨#[]⟩ : ByteArray) ++ ⟨#[50, 53, 48]⟩ = ⟨#[50, 53, 48]⟩ by decide]
  exact (parse_any ⟨#[50, 53, 48]⟩ w (by decide)).mono fun _ _ ⟨h, k⟩ => ⟨h.trans (retSI (by decide) (by decide)), k ▸ Below.refl _ _⟩
theorem known2_int2 (w : World) : Calls Tryz.prog 90 #[.string ⟨#[49, 48, 48]⟩] w fun e w' => e = .returned (.tuple #[.string ⟨#[49, 48, 48]⟩, .int .i64 0]) ∧ Below w.heap.size w w' :=
  (parse_any ⟨#[49, 48, 48]⟩ w (by decide)).mono fun _ _ ⟨h, k⟩ => ⟨h.trans (retSI (by decide) (by decide)), k ▸ Below.refl _ _⟩
theorem known2_parse (w : World) (R : EnvR w) : Calls Tryz.prog 28 #[.string ⟨#[50, 46, 53, 48]⟩] w fun e w' => e = .returned (.tuple #[.string ⟨#[53, 47, 50]⟩, .int .i64 0]) ∧ Below w.heap.size w w' := by
  have c1 : ∀ w, EnvR w → Calls Tryz.prog 64 #[.string ⟨#[50, 46, 53, 48]⟩, .string ⟨#[47]⟩] w fun e w' => e = .returned (.tuple #[.string ⟨#[50, 46, 53, 48]⟩, .string ⟨#[]⟩, .bool false]) ∧ Below w.heap.size w w' := fun w R => cut_call _ _ _ _ _ (by decide) (by decide) w R
  have c2 : ∀ w, EnvR w → Calls Tryz.prog 88 #[.string ⟨#[50, 46, 53, 48]⟩] w fun e w' => e = .returned (.tuple #[.string ⟨#[50, 53, 48]⟩, .string ⟨#[49, 48, 48]⟩]) ∧ Below w.heap.size w w' := fun w R =>
    (decimal_any ⟨#[50, 46, 53, 48]⟩ (by decide) w R).mono fun e w' h => ⟨h.1.trans (retSS (by decide) (by decide)), h.2⟩
  have c7 : ∀ w, EnvR w → Calls Tryz.prog 22 #[.string ⟨#[50, 53, 48]⟩, .string ⟨#[49, 48, 48]⟩] w fun e w' => e = .returned (.tuple #[.string ⟨#[53, 47, 50]⟩, .int .i64 0]) ∧ Below w.heap.size w w' := fun w R => by
    have := rnew_any 250 100 w R (by decide +kernel) (by decide +kernel) (by decide)
    rwa [q_b, show itoaB 250 = ⟨#[50, 53, 48]⟩ by decide +kernel, show itoaB 100 = ⟨#[49, 48, 48]⟩ by decide +kernel] at this
  exact parse_ndy ⟨#[50, 46, 53, 48]⟩ ⟨#[50, 53, 48]⟩ ⟨#[49, 48, 48]⟩ _ _ _ _ _ _ _ _ (by decide) (by decide) (by decide) (by decide) (by decide) (by decide) c1 c2 (fun w R => risDigits_any _ _ (by decide) w R) (fun w R => risDigits_any _ _ (by decide) w R) (fun w _ => known2_int1 w) (fun w _ => known2_int2 w) c7 w R
set_option maxRecDepth 100000 in
set_option maxHeartbeats 1000000 in
theorem known2_any  (w : World) (R : EnvR w) :
    Calls Tryz.prog 13 #[] w fun e w' => e = .returned (.bool true) ∧ Below w.heap.size w w' := by
  have c1 : ∀ w, EnvR w → Calls Tryz.prog 23 #[.int .i64 6, .int .i64 (-4)] w fun e w' => e = .returned (.tuple #[.string ⟨#[45, 51, 47, 50]⟩, .int .i64 0]) ∧ Below w.heap.size w w' := fun w R => known2_of w R
  have c2 : ∀ w, EnvR w → Calls Tryz.prog 28 #[.string ⟨#[50, 46, 53, 48]⟩] w fun e w' => e = .returned (.tuple #[.string ⟨#[53, 47, 50]⟩, .int .i64 0]) ∧ Below w.heap.size w w' := fun w R => known2_parse w R
  have c3 : ∀ w, EnvR w → Calls Tryz.prog 31 #[.string ⟨#[50, 47, 51]⟩, .int .i64 3] w fun e w' => e = .returned (.tuple #[.string ⟨#[48, 46, 54, 54, 55]⟩, .int .i64 0]) ∧ Below w.heap.size w w' := fun w R => known2_decimal w R
  have c4 : ∀ w, EnvR w → Calls Tryz.prog 58 #[.string ⟨#[57, 47, 52]⟩] w fun e w' => e = .returned (.tuple #[.string ⟨#[51, 47, 50]⟩, .bool true]) ∧ Below w.heap.size w w' := fun w R => known2_root w R
  have c5 : ∀ w, EnvR w → Calls Tryz.prog 42 #[.string ⟨#[45, 51, 47, 50]⟩, .string ⟨#[53, 47, 50]⟩] w fun e w' => e = .returned (.string ⟨#[49]⟩) ∧ Below w.heap.size w w' := fun w R => known2_add w R
  have C1 := Lib.hid c1
  have C2 := Lib.hid c2
  have C3 := Lib.hid c3
  have C4 := Lib.hid c4
  have C5 := Lib.hid c5
  clear c1 c2 c3 c4 c5
  have hb := Below.refl w.heap.size w
  go_enter Tryz.func13, Tryz.ntmps13
  go_wp2_with (first | (go_at_call 23; ((with_reducible refine (chain hb (C1.out _ (R.below hb))).mono ?_); clear hb; rintro e w1 ⟨rfl, hb⟩)) | (go_at_call 28; ((with_reducible refine (chain hb (C2.out _ (R.below hb))).mono ?_); clear hb; rintro e w1 ⟨rfl, hb⟩)) | (go_at_call 31; ((with_reducible refine (chain hb (C3.out _ (R.below hb))).mono ?_); clear hb; rintro e w1 ⟨rfl, hb⟩)) | (go_at_call 58; ((with_reducible refine (chain hb (C4.out _ (R.below hb))).mono ?_); clear hb; rintro e w1 ⟨rfl, hb⟩)) | (go_at_call 42; ((with_reducible refine (chain hb (C5.out _ (R.below hb))).mono ?_); clear hb; rintro e w1 ⟨rfl, hb⟩)))
  go_ret
  exact ⟨rfl, hb⟩
end Go.Proofs.YtgllflfifbacnaaGreatDoor.Kl
