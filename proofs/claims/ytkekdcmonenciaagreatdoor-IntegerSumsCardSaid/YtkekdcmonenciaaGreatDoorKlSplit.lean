/- Contracts: the program's split. -/
import Derived.Test.YtkekdcmonenciaaGreatDoorKlBig
import Derived.Test.YtkekdcmonenciaaGreatDoorKlTake
namespace Go.Proofs.YtkekdcmonenciaaGreatDoor.Kl
open Go Go.RowKit

/-- Where split stands behind j pieces: z digits are left. -/
structure Take9 (l : List UInt8) (j : Nat) (z : Int) (out : List Int) : Prop where
  len : out.length = j
  inr : Inr 1000000000 out
  eq : z = (l.length : Int) - 9 * j
  lo : -9 < z
  sum : pval 1000000000 out + 1000000000 ^ j * (val (l.take z.toNat) : Int) = (val l : Int)
theorem take9_step {l : List UInt8} (hd : l.all isDig = true) {j : Nat} {z : Int} {out : List Int} (h : Take9 l j z out) (hz : 0 < z) (e : Nat) (he : z = e) :
    Take9 l (j + 1) (z - 9) (out ++ [(val (win l (e - 9) e) : Int)]) ∧ val (win l (e - 9) e) < 1000000000 := by
  have hel : e ≤ l.length := by have := h.eq; omega
  have hw : val (win l (e - 9) e) < 1000000000 := by
    have h1 := val_lt _ (win_dig hd (e - 9) e)
    rw [win_len l (e - 9) e hel] at h1
    have h2 : 10 ^ (e - (e - 9)) ≤ 10 ^ 9 := Nat.pow_le_pow_right (by decide) (by omega)
    exact Nat.lt_of_lt_of_le h1 h2
  refine ⟨⟨by rw [List.length_append, h.len]; rfl, fun x hx => ?_, by rw [h.eq]; omega, by omega, ?_⟩, hw⟩
  · rcases List.mem_append.1 hx with hx | hx
    · exact h.inr x hx
    · obtain rfl : x = (val (win l (e - 9) e) : Int) := by simpa using hx
      omega
  · have hs := h.sum
    have e1 : z.toNat = e := by omega
    have e2 : (z - 9).toNat = e - 9 := by omega
    rw [e1, val_split l (e - 9) e (by omega) hel] at hs
    rw [pval_append, h.len, e2, ← hs, Int.pow_succ]
    show pval 1000000000 out + 1000000000 ^ j * ((val (win l (e - 9) e) : Int) + 1000000000 * 0) + 1000000000 ^ j * 1000000000 * (val (l.take (e - 9)) : Int) = _
    have hv : (val (l.take (e - 9)) * 10 ^ (e - (e - 9)) : Nat) = val (l.take (e - 9)) * 1000000000 := by
      by_cases h4 : 9 ≤ e
      · rw [show e - (e - 9) = 9 by omega]
      · rw [show e - 9 = 0 by omega]; simp [val, valFrom]
    rw [hv]
    generalize val (l.take (e - 9)) = A
    generalize val (win l (e - 9) e) = C
    rw [Int.add_assoc, Int.mul_assoc, ← Int.mul_add]
    congr 2
    omega
theorem made_iv (n : Nat) : (madeCells #[Value.int .i64 0] n).toList = iv (List.replicate n 0) := by
  unfold madeCells iv
  apply List.ext_getElem
  · simp
  · intro i h1 h2
    simp [Nat.mod_one]
theorem made_parts : ∃ i, Tryz.prog.info? 3 = some i ∧ i.zero = some (.int .i64 0) ∧ i.size = 1 ∧ i.bytes = 8 := info_parts info3
/-- make of ints, at any length. -/
theorem make_ints (T : TypeId) (hT : Tryz.prog.underlying T = some (.slice 3)) (l c : Nat) (hlc : l ≤ c) (hc : c ≤ 1000000) (w : World) :
    (Instr.makeSlice T (.int .i64 l) (.int .i64 c)).run Tryz.prog w = .ok (.slice (some ⟨w.heap.size, 0, none⟩) l c) (w.alloc (.cells (madeCells #[Value.int .i64 0] c) 3)) := by
  obtain ⟨i, hi, hz, hs, hb⟩ := made_parts
  have := run_make w T 3 i (.int .i64 0) hT hi hz .i64 .i64 (l : Int) (c : Int) (by omega) (by omega) (by rw [hb]; omega) (by omega)
  rw [hs, Nat.mul_one] at this
  simpa [Value.cells] using this
end Go.Proofs.YtkekdcmonenciaaGreatDoor.Kl
