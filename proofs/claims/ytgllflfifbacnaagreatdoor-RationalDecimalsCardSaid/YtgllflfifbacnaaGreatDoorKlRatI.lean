/- Mathematics: what Parse makes of the texts of numbers and of decimal fractions. -/
import Derived.Test.YtgllflfifbacnaaGreatDoorKlRatZ
import Derived.Test.YtgllflfifbacnaaGreatDoorKlKnown2
namespace Go.Proofs.YtgllflfifbacnaaGreatDoor.Kl
open Go Go.RowKit

theorem val_zerosl (m : Nat) (l : List UInt8) : val (List.replicate m 48 ++ l) = val l := by
  induction m with
  | zero => rfl
  | succ m ih => rw [List.replicate_succ, List.cons_append, val_cons, ih]; simp
theorem val_pow (p : Nat) : val (49 :: List.replicate p 48) = 10 ^ p := by
  have h := val_zerosl p []
  rw [List.append_nil] at h
  rw [val_cons, h, List.length_replicate, show (49 : UInt8).toNat - 48 = 1 by rfl, Nat.one_mul]; rfl
theorem unsign_at {l : List UInt8} (h : l ≠ [] ∧ l.head? ≠ some 43 ∧ l.head? ≠ some 45) (b : Bool) : unsign ((if b = true then [45] else []) ++ l) = l ∧ (if b = true then [45] else []) ++ l ≠ [] ∧ neg ((if b = true then [45] else []) ++ l) = b := by
  obtain ⟨h1, h2, h3⟩ := h
  cases b with
  | true => exact ⟨rfl, by simp, rfl⟩
  | false =>
    refine ⟨?_, by simpa using h1, ?_⟩
    · unfold unsign; simp [h2, h3]
    · unfold neg; simp [h3]
theorem dec_digB (u : Nat) : digB (Lib.decDigits u) = true := digB_iff.2 ⟨decDigits_dig u, decDigits_ne u⟩
theorem dig_ne {c x : UInt8} (h : isDig x = true) (hc : isDig c = false) : x ≠ c := fun e => by rw [e, hc] at h; cases h
theorem dig_free {c : UInt8} {l : List UInt8} (h : l.all isDig = true) (hc : isDig c = false) : c ∉ l := fun hm => dig_ne (List.all_eq_true.1 h c hm) hc rfl
theorem head_append {l m : List UInt8} (h : l ≠ []) : (l ++ m).head? = l.head? := by
  cases l with
  | nil => exact absurd rfl h
  | cons c r => rfl
theorem num_sign (n : Int) (s l : List UInt8) (hs : neg s = decide (n < 0)) (hv : val l = n.natAbs) : numQ s l = n := by
  unfold numQ
  rw [hs, hv]
  by_cases h : n < 0
  · rw [if_pos (decide_eq_true h)]; omega
  · rw [if_neg (by rw [decide_eq_false h]; decide)]; omega
theorem sg_if (n : Int) : (if n < 0 then [(45 : UInt8)] else []) = (if decide (n < 0) = true then [45] else []) := by
  by_cases h : n < 0
  · rw [if_pos h, if_pos (decide_eq_true h)]
  · rw [if_neg h, if_neg (by rw [decide_eq_false h]; decide)]
theorem itoa_sg (n : Int) : Lib.itoa n = (if decide (n < 0) = true then [45] else []) ++ Lib.decDigits n.natAbs := by
  rw [← sg_if]
  unfold Lib.itoa
  by_cases h : n < 0
  · rw [if_pos h, if_pos h]; rfl
  · rw [if_neg h, if_neg h, show n.toNat = n.natAbs by omega]; rfl
/-- An integer is read as itself. -/
theorem parseQ_int (n : Int) (hl : dlen n ≤ 190) : parseQ (Lib.itoa n) = (ratS (Rat.divInt n 1), 0) := by
  have hd := dec_digB n.natAbs
  have hdd := (digB_iff.1 hd).1
  obtain ⟨u1, u2, u3⟩ := unsign_at (dig_head hd) (decide (n < 0))
  rw [← itoa_sg] at u1 u2 u3
  have hf : fracL (unsign (Lib.itoa n)) = (Lib.decDigits n.natAbs, [49]) := by rw [u1]; exact frac_none (dig_free hdd (by decide)) (dig_free hdd (by decide))
  have hlen : ¬ 200 < (Lib.itoa n).length := by rw [itoa_len]; split <;> omega
  rw [pq_ok u2 hf hd (by decide) hlen (by decide), num_sign n _ _ u3 (val_decDigits _)]; rfl
/-- What Decimal writes is read as the parts of 10 to the p. -/
theorem parseQ_dec (n : Int) (p : Nat) (hp : p ≤ 12) (hl : dlen n ≤ 150) : parseQ (decS n p) = (ratS (Rat.divInt n ((10 ^ p : Nat) : Int)), 0) := by
  have hd := dec_digB n.natAbs
  have hdd := (digB_iff.1 hd).1
  by_cases h0 : p = 0
  · subst h0
    have e : decS n 0 = Lib.itoa n := by unfold decS; rw [itoa_sg, ← sg_if]; rfl
    rw [e]; exact parseQ_int n (by omega)
  · obtain ⟨m, hm⟩ : ∃ m, p + 1 - (Lib.decDigits n.natAbs).length = m := ⟨_, rfl⟩
    obtain ⟨D, hD⟩ : ∃ D, List.replicate m (48 : UInt8) ++ Lib.decDigits n.natAbs = D := ⟨_, rfl⟩
    have hDl : D.length = m + (Lib.decDigits n.natAbs).length := by rw [← hD, List.length_append, List.length_replicate]
    have hDd : D.all isDig = true := by
      rw [← hD, List.all_append, Bool.and_eq_true]
      refine ⟨List.all_eq_true.2 fun x hx => ?_, hdd⟩
      rw [List.eq_of_mem_replicate hx]; decide
    have hDv : val D = n.natAbs := by rw [← hD, val_zerosl, val_decDigits]
    have hlen : (Lib.decDigits n.natAbs).length ≤ 150 := hl
    have hpos := List.length_pos_iff.2 (decDigits_ne n.natAbs)
    obtain ⟨A, hA⟩ : ∃ A, D.take (D.length - p) = A := ⟨_, rfl⟩
    obtain ⟨B, hB⟩ : ∃ B, D.drop (D.length - p) = B := ⟨_, rfl⟩
    have hAB : A ++ B = D := by rw [← hA, ← hB]; exact List.take_append_drop _ _
    have hAl : A.length = D.length - p := by rw [← hA, List.length_take]; omega
    have hBl : B.length = p := by rw [← hB, List.length_drop]; omega
    have e : decS n p = (if decide (n < 0) = true then [45] else []) ++ (A ++ 46 :: B) := by
      unfold decS
      dsimp only
      rw [if_neg h0, hm, hD, hA, hB, ← sg_if]
      simp
    have hAd : A.all isDig = true := by rw [← hAB, List.all_append, Bool.and_eq_true] at hDd; exact hDd.1
    have hBd : B.all isDig = true := by rw [← hAB, List.all_append, Bool.and_eq_true] at hDd; exact hDd.2
    have hA0 : A ≠ [] := List.length_pos_iff.1 (by omega)
    have hB0 : B ≠ [] := List.length_pos_iff.1 (by omega)
    obtain ⟨d1, d2, d3⟩ := dig_head (digB_iff.2 ⟨hAd, hA0⟩)
    obtain ⟨u1, u2, u3⟩ := unsign_at (l := A ++ 46 :: B) ⟨by simp, by rw [head_append d1]; exact d2, by rw [head_append d1]; exact d3⟩ (decide (n < 0))
    rw [← e] at u1 u2 u3
    have hf : fracL (unsign (decS n p)) = (D, 49 :: List.replicate p 48) := by
      rw [u1, frac_dot (dig_free hAd (by decide)) (dig_free hAd (by decide)) (dig_free hBd (by decide)), if_neg (by rintro (h | h) <;> contradiction), hAB, hBl]
    have hls : ¬ 200 < (decS n p).length := by
      rw [e]; simp only [List.length_append, List.length_cons]
      split <;> simp <;> omega
    have hz : digB (49 :: List.replicate p 48) = true := digB_iff.2 ⟨by
      rw [List.all_cons, Bool.and_eq_true]
      exact ⟨by decide, List.all_eq_true.2 fun x hx => by rw [List.eq_of_mem_replicate hx]; decide⟩, by simp⟩
    have hDg : digB D = true := digB_iff.2 ⟨hDd, List.length_pos_iff.1 (by omega)⟩
    rw [pq_ok u2 hf hDg hz hls (by rw [val_pow]; exact Nat.ne_of_gt (Nat.pow_pos (by decide))), num_sign n _ _ u3 hDv, val_pow]
end Go.Proofs.YtgllflfifbacnaaGreatDoor.Kl
