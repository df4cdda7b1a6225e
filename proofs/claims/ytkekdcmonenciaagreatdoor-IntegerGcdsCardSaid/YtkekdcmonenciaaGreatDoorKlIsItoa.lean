/- Every canonical text is the text of an integer; the reference's Abs. -/
import Derived.Test.YtkekdcmonenciaaGreatDoorKlCompare
namespace Go.Proofs.YtkekdcmonenciaaGreatDoor.Kl
open Go Go.RowKit

theorem dig_unique : ∀ (l m : List UInt8), l.length = m.length → l.all isDig = true → m.all isDig = true → val l = val m → l = m
  | [], [], _, _, _, _ => rfl
  | [], _ :: _, h, _, _, _ => by simp at h
  | _ :: _, [], h, _, _, _ => by simp at h
  | a :: al, b :: bl, h, ha, hb, hv => by
    rw [List.all_cons, Bool.and_eq_true] at ha hb
    have hl : al.length = bl.length := by simpa using h
    have h1 := val_lt al ha.2
    have h2 := val_lt bl hb.2
    have da := isDig_iff.1 ha.1
    have db := isDig_iff.1 hb.1
    rw [val_cons, val_cons, ← hl] at hv
    rw [← hl] at h2
    have ih := dig_unique al bl hl ha.2 hb.2
    obtain ⟨P, hP⟩ : ∃ P, 10 ^ al.length = P := ⟨_, rfl⟩
    rw [hP] at h1 h2 hv
    have key : ∀ u v : Nat, u < v → u * P + P ≤ v * P := fun u v huv => by
      have := Nat.mul_le_mul_right P (show u + 1 ≤ v by omega)
      rwa [Nat.add_mul, Nat.one_mul] at this
    have hd : a.toNat - 48 = b.toNat - 48 := by
      rcases Nat.lt_trichotomy (a.toNat - 48) (b.toNat - 48) with c | c | c
      · have := key _ _ c; omega
      · exact c
      · have := key _ _ c; omega
    rw [hd] at hv
    have e1 : a = b := UInt8.toNat.inj (by omega)
    rw [e1, ih (by omega)]
theorem dec_of_canon {m : List UInt8} (h : m.all isDig = true) (h0 : m ≠ []) (h1 : m.head? = some 48 → m.length = 1) : m = Lib.decDigits (val m) := by
  refine dig_unique _ _ ?_ h (decDigits_dig _) (val_decDigits _).symm
  have hp : 0 < m.length := List.length_pos_iff.2 h0
  have a1 := dec_len_le (val m) m.length (val_lt m h) hp
  by_cases hh : m.head? = some 48
  · have := List.length_pos_iff.2 (decDigits_ne (val m))
    have := h1 hh
    omega
  · have a2 := val_ge_of_head h h0 hh
    have a3 : 10 ^ (m.length - 1) < 10 ^ (Lib.decDigits (val m)).length := Nat.lt_of_le_of_lt a2 (dig_lt _)
    have a4 := (Nat.pow_lt_pow_iff_right (by decide : 1 < 10)).1 a3
    omega
/-- A canonical text is the text of an integer. -/
theorem canon_is_itoa {l : List UInt8} (h : canonB l = true) : ∃ x : Int, l = Lib.itoa x ∧ dlen x = (mag l).length := by
  obtain ⟨h1, h2, h3⟩ := canon_parts h
  have e := dec_of_canon h1 h2 (fun hh => (h3 hh).2)
  cases hn : neg l with
  | false =>
    have em := mag_pos hn
    refine ⟨(val (mag l) : Int), ?_, ?_⟩
    · rw [itoa_nat _ (by omega), show ((val (mag l) : Nat) : Int).toNat = val (mag l) by omega, ← e, em]
    · unfold dlen; rw [show ((val (mag l) : Nat) : Int).natAbs = val (mag l) by omega, ← e]
  | true =>
    have hpos : 0 < val (mag l) := by
      have hh : (mag l).head? ≠ some 48 := fun hh => by have := (h3 hh).1; rw [hn] at this; cases this
      exact Nat.lt_of_lt_of_le (Nat.pow_pos (by decide)) (val_ge_of_head h1 h2 hh)
    refine ⟨-(val (mag l) : Int), ?_, ?_⟩
    · rw [← sgn_of (-(val (mag l) : Int)) true (val (mag l)) (by omega) (fun _ => by rw [decide_eq_true (by omega)])]
      unfold sgn; rw [decide_eq_true hpos, ← e]; exact mag_neg_cons hn
    · unfold dlen; rw [show (-(val (mag l) : Int)).natAbs = val (mag l) by omega, ← e]
set_option maxHeartbeats 1000000 in
/-- The reference's magnitude. -/
theorem refAbs_any (x : Int) (w : World) :
    Calls Tryz.prog 20 #[.string (itoaB x)] w fun e w' => e = .returned (.string (itoaB x.natAbs)) ∧ Below w.heap.size w w' := by
  have s1 : ∀ w, Calls Tryz.prog 42 #[.string (itoaB x)] w fun e w' => e = .returned (.tuple #[.bool (decide (x < 0)), .string (magB (itoaB x))]) ∧ Below w.heap.size w w' := fun w => split_any _ w _ (neg_itoaB x)
  have e : magB (itoaB x) = itoaB x.natAbs := by
    rw [magB_itoa]; unfold itoaB; rw [itoa_nat _ (by omega)]; rfl
  rw [e] at s1
  obtain ⟨c, hc⟩ : ∃ c, decide (x < 0) = c := ⟨_, rfl⟩
  obtain ⟨r, hr⟩ : ∃ r, itoaB x.natAbs = r := ⟨_, rfl⟩
  obtain ⟨a, ha⟩ : ∃ a, itoaB x = a := ⟨_, rfl⟩
  rw [hc, hr, ha] at s1
  rw [hr, ha]
  have S1 := Lib.hid s1
  clear s1 e hc hr ha
  have hb := Below.refl w.heap.size w
  go_enter Tryz.func20, Tryz.ntmps20
  go_wp2_with (go_at_call 42; refine (chain hb (S1.out _)).mono ?_; clear hb; rintro e w1 ⟨rfl, hb⟩)
  go_ret
  exact ⟨rfl, hb⟩
end Go.Proofs.YtkekdcmonenciaaGreatDoor.Kl
