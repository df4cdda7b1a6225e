/- Contracts: the reference's Parse and Neg. -/
import Derived.Test.YtgllflfifbacnaaGreatDoorKlCanon
namespace Go.Proofs.YtgllflfifbacnaaGreatDoor.Kl
open Go Go.RowKit

/-- Without zeros ahead, but for the last digit. -/
def strip1 : List UInt8 → List UInt8
  | [] => []
  | [c] => [c]
  | c :: d :: r => if c == 48 then strip1 (d :: r) else c :: d :: r
theorem strip1_eq : ∀ (l : List UInt8), l.all isDig = true → l ≠ [] → strip1 l = if strip l = [] then [48] else strip l
  | [], _, h => absurd rfl h
  | [c], _, _ => by
    unfold strip1 strip
    by_cases hc : c = 48
    · subst hc; decide
    · rw [List.dropWhile_cons_of_neg (by simpa using hc)]; rfl
  | c :: d :: r, h, _ => by
    unfold strip1
    rw [List.all_cons, Bool.and_eq_true] at h
    by_cases hc : c = 48
    · subst hc
      have e : strip (48 :: d :: r) = strip (d :: r) := by
        unfold strip; rw [List.dropWhile_cons_of_pos (a := (48 : UInt8)) (l := d :: r) (by decide)]
      rw [if_pos (by decide), strip1_eq (d :: r) h.2 (by simp), e]
    · have : (c == 48) = false := by simpa using hc
      rw [this, if_neg (by decide)]
      unfold strip
      rw [List.dropWhile_cons_of_neg (by simpa using hc)]; rfl
/-- What is left of the digits, while zeros are taken away. -/
structure Tail (u : List UInt8) (t : ByteArray) : Prop where
  pos : 0 < t.size
  le : t.size ≤ u.length
  same : strip1 t.data.toList = strip1 u
def strLen : Value → Nat | .string t => t.size | _ => 0
theorem tail_start {D : ByteArray} (h : digB D.data.toList = true) : Tail D.data.toList D :=
  ⟨by rw [size_len]; exact List.length_pos_iff.2 (digB_iff.1 h).2, by rw [← size_len]; exact Nat.le_refl _, rfl⟩
theorem list_two {t : ByteArray} (h : 1 < t.size) : ∃ d r, t.data.toList = t[0] :: d :: r := by
  obtain ⟨⟨l⟩⟩ := t
  match l, h with
  | c :: d :: r, _ => exact ⟨d, r, rfl⟩
theorem tail_step {u : List UInt8} {t : ByteArray} (h : Tail u t) (h1 : 1 < t.size) (h48 : ((t[0].toNat : Int) == 48) = true) : Tail u (t.extract 1 t.size) := by
  obtain ⟨d, r, e⟩ := list_two h1
  have he : (t.extract 1 t.size).data.toList = d :: r := by rw [Lib.extract_to_end, e]; rfl
  have c48 : t[0] = 48 := UInt8.toNat.inj (by have := beq_iff_eq.1 h48; have h48 : (48 : UInt8).toNat = 48 := rfl; omega)
  refine ⟨?_, ?_, ?_⟩
  · rw [size_len, he]; simp
  · have := h.le; rw [size_len, e] at this; rw [size_len, he]; simp at this ⊢; omega
  · rw [he, ← h.same, e, c48]; rfl
theorem tail_end {u : List UInt8} {t : ByteArray} (h : Tail u t) (h1 : ¬ (1 < t.size ∧ ((t[0]'h.pos).toNat : Int) = 48)) : t.data.toList = strip1 u := by
  rw [← h.same]
  by_cases h2 : 1 < t.size
  · obtain ⟨d, r, e⟩ := list_two h2
    rw [e]
    have : (t[0] == 48) = false := by
      rw [beq_eq_false_iff_ne]; intro c; apply h1; exact ⟨h2, by rw [c]; rfl⟩
    unfold strip1
    rw [this, if_neg (by decide)]
  · have hp := h.pos
    have hl : t.data.toList.length = 1 := by rw [← size_len]; omega
    obtain ⟨c, hc⟩ := List.length_eq_one_iff.1 hl
    rw [hc]; rfl
theorem empty_true (s : ByteArray) (h : s.size = 0) : s.toList.isEmpty = true := by
  rw [Lib.toList_data]; rw [size_len, List.length_eq_zero_iff] at h; rw [h]; rfl

end Go.Proofs.YtgllflfifbacnaaGreatDoor.Kl
