/- What a description makes is canonical, and how long it is. -/
import Derived.Test.YtkekdcmonenciaaGreatDoorKlMake
import Derived.Test.YtkekdcmonenciaaGreatDoorKlCanon
namespace Go.Proofs.YtkekdcmonenciaaGreatDoor.Kl
open Go Go.RowKit

theorem strip_head (l : List UInt8) : (strip l).head? ≠ some 48 := by
  intro e
  have h3 := List.head?_dropWhile_not (· == 48) l
  unfold strip at e
  rw [e] at h3
  simp at h3
/-- What a description gives is canonical. -/
theorem canon_digits {l : List UInt8} (h : digB l = true) (h48 : l.head? = some 48 → l = [48]) : canonB l = true := by
  have hn := neg_dig (digB_iff.1 h).1
  have hm := mag_pos hn
  by_cases e : l.head? = some 48
  · rw [h48 e]; decide
  · exact canon_of (by rw [hm]; exact h) (by rw [hm]; exact e)
theorem makeA_head {l : List UInt8} (h : l.all isDig = true) : (makeA l).head? = some 48 → makeA l = [48] := by
  unfold makeA
  by_cases h0 : l = []
  · rw [if_pos h0]; exact fun _ => rfl
  · rw [if_neg h0, strip1_eq l h h0]
    by_cases hz : strip l = []
    · rw [if_pos hz]; exact fun _ => rfl
    · rw [if_neg hz]; exact fun e => absurd e (strip_head l)
theorem canon_make (b : Bool) {l : List UInt8} (h : l.all isDig = true) : canonB (makeS b l) = true := by
  have hd := makeA_dig h
  have hh := makeA_head h
  unfold makeS
  cases b with
  | false => exact canon_digits hd hh
  | true =>
    rw [if_pos rfl]
    unfold negDig
    by_cases e : makeA l = [48]
    · rw [if_pos e]; decide
    · rw [if_neg e]
      have hm : mag (45 :: makeA l) = makeA l := by rw [mag_cons]; rfl
      exact canon_of (by rw [hm]; exact hd) (by rw [hm]; exact fun x => e (hh x))
theorem strip1_le : ∀ l : List UInt8, (strip1 l).length ≤ l.length
  | [] => Nat.le_refl _
  | [_] => Nat.le_refl _
  | c :: d :: r => by
    unfold strip1
    split
    · have := strip1_le (d :: r); simp at this ⊢; omega
    · exact Nat.le_refl _
theorem makeS_le (b : Bool) (l : List UInt8) : (makeS b l).length ≤ l.length + 2 := by
  have h1 : (makeA l).length ≤ l.length + 1 := by
    unfold makeA; split
    · simp
    · have := strip1_le l; omega
  unfold makeS
  cases b with
  | false => exact Nat.le_trans h1 (by omega)
  | true =>
    rw [if_pos rfl]
    unfold negDig
    split
    · simp
    · rw [List.length_cons]; omega
end Go.Proofs.YtkekdcmonenciaaGreatDoor.Kl
