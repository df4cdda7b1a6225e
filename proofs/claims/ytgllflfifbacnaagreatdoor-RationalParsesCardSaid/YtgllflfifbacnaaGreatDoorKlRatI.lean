/- Mathematics: what Parse makes of the texts of numbers and of decimal fractions. -/
import Derived.Test.YtgllflfifbacnaaGreatDoorKlRatZ
import Derived.Test.YtgllflfifbacnaaGreatDoorKlKnown2
namespace Go.Proofs.YtgllflfifbacnaaGreatDoor.Kl
open Go Go.RowKit

theorem unsign_at {l : List UInt8} (h : l ≠ [] ∧ l.head? ≠ some 43 ∧ l.head? ≠ some 45) (b : Bool) : unsign ((if b = true then [45] else []) ++ l) = l ∧ (if b = true then [45] else []) ++ l ≠ [] ∧ neg ((if b = true then [45] else []) ++ l) = b := by
  obtain ⟨h1, h2, h3⟩ := h
  cases b with
  | true => exact ⟨rfl, by simp, rfl⟩
  | false =>
    refine ⟨?_, by simpa using h1, ?_⟩
    · unfold unsign; simp [h2, h3]
    · unfold neg; simp [h3]
theorem dec_digB (u : Nat) : digB (Lib.decDigits u) = true := digB_iff.2 ⟨decDigits_dig u, decDigits_ne u⟩
theorem dig_ne {c x : UInt8} (h : isDig x = true) (hc : isDig c = false) : x ≠ c := fun e => by rw [e, hc] at h; cases h
theorem dig_free {c : UInt8} {l : List UInt8} (h : l.all isDig = true) (hc : isDig c = false) : c ∉ l := fun hm => dig_ne (List.all_eq_true.1 h c hm) hc rfl
theorem head_append {l m : List UInt8} (h : l ≠ []) : (l ++ m).head? = l.head? := by
  cases l with
  | nil => exact absurd rfl h
  | cons c r => rfl
theorem num_sign (n : Int) (s l : List UInt8) (hs : neg s = decide (n < 0)) (hv : val l = n.natAbs) : numQ s l = n := by
  unfold numQ
  rw [hs, hv]
  by_cases h : n < 0
  · rw [if_pos (decide_eq_true h)]; omega
  · rw [if_neg (by rw [decide_eq_false h]; decide)]; omega
theorem sg_if (n : Int) : (if n < 0 then [(45 : UInt8)] else []) = (if decide (n < 0) = true then [45] else []) := by
  by_cases h : n < 0
  · rw [if_pos h, if_pos (decide_eq_true h)]
  · rw [if_neg h, if_neg (by rw [decide_eq_false h]; decide)]
theorem itoa_sg (n : Int) : Lib.itoa n = (if decide (n < 0) = true then [45] else []) ++ Lib.decDigits n.natAbs := by
  rw [← sg_if]
  unfold Lib.itoa
  by_cases h : n < 0
  · rw [if_pos h, if_pos h]; rfl
  · rw [if_neg h, if_neg h, show n.toNat = n.natAbs by omega]; rfl
/-- An integer is read as itself. -/
theorem parseQ_int (n : Int) (hl : dlen n ≤ 190) : parseQ (Lib.itoa n) = (ratS (Rat.divInt n 1), 0) := by
  have hd := dec_digB n.natAbs
  have hdd := (digB_iff.1 hd).1
  obtain ⟨u1, u2, u3⟩ := unsign_at (dig_head hd) (decide (n < 0))
  rw [← itoa_sg] at u1 u2 u3
  have hf : fracL (unsign (Lib.itoa n)) = (Lib.decDigits n.natAbs, [49]) := by rw [u1]; exact frac_none (dig_free hdd (by decide)) (dig_free hdd (by decide))
  have hlen : ¬ 200 < (Lib.itoa n).length := by rw [itoa_len]; split <;> omega
  rw [pq_ok u2 hf hd (by decide) hlen (by decide), num_sign n _ _ u3 (val_decDigits _)]; rfl
/-- A right number is read as itself. -/
theorem parseQ_rat (q : Rat) (hq : (ratB q).size ≤ 200) (hl : RL q 180) : parseQ (ratS q) = (ratS q, 0) := by
  by_cases h1 : q.den = 1
  · rw [ratS_int h1, parseQ_int q.num (by have := hl.1; omega)]
    congr 1
    rw [← ratS_int h1]
    congr 1
    have := rat_mk q
    rwa [h1] at this
  · have hd := dec_digB q.num.natAbs
    have hdd := (digB_iff.1 hd).1
    have hb := dec_digB q.den
    have hp := q.den_pos
    have e : ratS q = (if decide (q.num < 0) = true then [45] else []) ++ (Lib.decDigits q.num.natAbs ++ 47 :: Lib.decDigits q.den) := by
      rw [ratS_frac h1, itoa_sg q.num, itoa_nat (q.den : Int) (by omega), Int.toNat_natCast, List.append_assoc]
    obtain ⟨d1, d2, d3⟩ := dig_head hd
    obtain ⟨u1, u2, u3⟩ := unsign_at (l := Lib.decDigits q.num.natAbs ++ 47 :: Lib.decDigits q.den) ⟨by simp, by rw [head_append d1]; exact d2, by rw [head_append d1]; exact d3⟩ (decide (q.num < 0))
    rw [← e] at u1 u2 u3
    have hf : fracL (unsign (ratS q)) = (Lib.decDigits q.num.natAbs, Lib.decDigits q.den) := by rw [u1]; exact frac_slash (dig_free hdd (by decide))
    have hlen : ¬ 200 < (ratS q).length := by rw [← ratB_size]; omega
    rw [pq_ok u2 hf hd hb hlen (by rw [val_decDigits]; omega), num_sign q.num _ _ u3 (val_decDigits _), val_decDigits, rat_mk]
end Go.Proofs.YtgllflfifbacnaaGreatDoor.Kl
