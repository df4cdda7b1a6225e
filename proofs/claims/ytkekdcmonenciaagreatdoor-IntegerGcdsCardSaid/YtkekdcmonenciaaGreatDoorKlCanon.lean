/- Facts on canonical texts. -/
import Derived.Test.YtkekdcmonenciaaGreatDoorKlParse
namespace Go.Proofs.YtkekdcmonenciaaGreatDoor.Kl
open Go Go.RowKit

theorem isDig_lt {c : UInt8} (h : (c.toNat : Int) < 48) : isDig c = false := by
  unfold isDig; simp only [Bool.and_eq_false_iff, decide_eq_false_iff_not]; omega
theorem isDig_gt {c : UInt8} (h : 57 < (c.toNat : Int)) : isDig c = false := by
  unfold isDig; simp only [Bool.and_eq_false_iff, decide_eq_false_iff_not]; omega
theorem isDig_in {c : UInt8} (h : 48 ≤ (c.toNat : Int)) (g : (c.toNat : Int) ≤ 57) : isDig c = true := by
  unfold isDig; simp only [Bool.and_eq_true, decide_eq_true_eq]; omega
theorem canon_nodig {l : List UInt8} (h : digB (mag l) = false) : canonB l = false := by unfold canonB; rw [h]; rfl
theorem all_full {s : ByteArray} (H : (s.data.toList.take s.size).all isDig = true) : s.data.toList.all isDig = true := by
  rwa [List.take_of_length_le (by rw [Array.length_toList]; exact Nat.le_refl _)] at H
theorem digB_of {s : ByteArray} (H : (s.data.toList.take s.size).all isDig = true) (h : 0 < s.size) : digB s.data.toList = true := by
  rw [digB_iff]; exact ⟨all_full H, ne_of_size s h⟩
theorem canon_of {l : List UInt8} (h : digB (mag l) = true) (h48 : (mag l).head? ≠ some 48) : canonB l = true := by
  unfold canonB; rw [h, beq_eq_false_iff_ne.2 h48]; rfl
theorem canon_zero {l : List UInt8} (h : digB (mag l) = true) (h48 : (mag l).head? = some 48) : canonB l = !(neg l || decide (1 < (mag l).length)) := by
  unfold canonB; rw [h, h48]; rfl
theorem canon_no {s m : ByteArray} (hd : m.data.toList = mag s.data.toList) (k : Nat) (h : k < m.size) (d : isDig m[k] = false) : canonB s.data.toList = false :=
  canon_nodig (by rw [← hd]; exact digB_false_at m k h d)
theorem head_eq {m : ByteArray} (h : 0 < m.size) (e : ((m[0].toNat : Int) == 48) = true) : m.data.toList.head? = some 48 := by
  rw [head_of m h]
  have e' : m[0].toNat = 48 := by have := beq_iff_eq.1 e; omega
  congr 1; exact UInt8.toNat.inj e'
theorem head_ne {m : ByteArray} (h : 0 < m.size) (e : ((m[0].toNat : Int) == 48) = false) : m.data.toList.head? ≠ some 48 := by
  rw [head_of m h]
  intro e2
  have e3 := beq_eq_false_iff_ne.1 e
  injection e2 with e2
  apply e3
  rw [e2]; rfl

end Go.Proofs.YtkekdcmonenciaaGreatDoor.Kl
