/- The plain mathematics: decimal texts. No program in this text. -/
import Derived.Lib.Strings
import Derived.Lib.TrimByte
import Derived.Lib.IndexBytes
import Derived.Lib.ParseIntB
import Derived.Lib.ItoaNum
import Derived.Lib.Hide
namespace Go.Proofs.YtkekdcmonenciaaGreatDoor.Kl
open Go

/-- A decimal digit. -/
def isDig (c : UInt8) : Bool := decide (48 ≤ c.toNat) && decide (c.toNat ≤ 57)
/-- A text of digits that has one. -/
def digB (l : List UInt8) : Bool := l.all isDig && !l.isEmpty
/-- Has a minus sign; what stands behind it. -/
def neg (l : List UInt8) : Bool := l.head? == some 45
def mag (l : List UInt8) : List UInt8 := if neg l then l.tail else l
/-- A canonical integer, and a right one. -/
def canonB (l : List UInt8) : Bool := digB (mag l) && !(((mag l).head? == some 48) && (neg l || decide (1 < (mag l).length)))
def rightB (l : List UInt8) : Bool := canonB l && decide ((mag l).length ≤ 200)

theorem neg_nil : neg [] = false := rfl
theorem neg_cons (c : UInt8) (r : List UInt8) : neg (c :: r) = (c == 45) := by simp [neg]
theorem mag_nil : mag [] = [] := rfl
theorem mag_cons (c : UInt8) (r : List UInt8) : mag (c :: r) = if c == 45 then r else c :: r := by simp [mag, neg]

theorem trimPrefix_minus (l : List UInt8) : Lib.trimPrefix l [45] = mag l := by
  cases l with
  | nil => decide
  | cons c r =>
    rw [mag_cons]
    unfold Lib.trimPrefix Lib.hasPrefix
    by_cases h : c = 45
    · subst h; simp
    · have : (c == 45) = false := by simpa using h
      simp [this, Ne.symm h]

theorem isDig_false_of {c : UInt8} (h : 9 < ((c.toNat : Int) - 48) % 256) : isDig c = false := by
  have := c.toNat_lt
  unfold isDig
  simp only [Bool.and_eq_false_iff, decide_eq_false_iff_not]
  omega
theorem isDig_true_of {c : UInt8} (h : ((c.toNat : Int) - 48) % 256 ≤ 9) : isDig c = true := by
  have := c.toNat_lt
  unfold isDig
  simp only [Bool.and_eq_true, decide_eq_true_eq]
  omega

theorem take_snoc (s : ByteArray) (k : Nat) (h : k < s.size) : s.data.toList.take (k + 1) = s.data.toList.take k ++ [s[k]] := by
  rw [List.take_succ_eq_append_getElem (by simpa using h)]; rfl
theorem all_step (s : ByteArray) (k : Nat) (h : k < s.size) (H : (s.data.toList.take k).all isDig = true) (d : isDig s[k] = true) : (s.data.toList.take (k + 1)).all isDig = true := by
  rw [take_snoc s k h, List.all_append, H]; simp [d]
theorem digB_false_at (s : ByteArray) (k : Nat) (h : k < s.size) (d : isDig s[k] = false) : digB s.data.toList = false := by
  unfold digB
  have : s.data.toList.all isDig = false := by
    rw [List.all_eq_false]
    exact ⟨s[k], List.mem_of_getElem (i := k) (h := by simpa using h) rfl, by simp [d]⟩
  rw [this]; rfl
theorem digB_end (s : ByteArray) (H : (s.data.toList.take s.size).all isDig = true) : digB s.data.toList = !s.toList.isEmpty := by
  rw [List.take_of_length_le (by rw [Array.length_toList]; exact Nat.le_refl _)] at H
  unfold digB
  rw [H, Lib.toList_data]; rfl
end Go.Proofs.YtkekdcmonenciaaGreatDoor.Kl
