/- Contracts: the reference's Add, Neg, Sub, Sign, Compare on the texts of integers. -/
import Derived.Test.YtkekdcmonenciaaGreatDoorKlAdd
namespace Go.Proofs.YtkekdcmonenciaaGreatDoor.Kl
open Go Go.RowKit

theorem magB_dlen (x : Int) : (magB (itoaB x)).size = dlen x := by rw [magB_itoa, strOf_size]; rfl
theorem magB_dig (x : Int) : (magB (itoaB x)).data.toList.all isDig = true := by rw [magB_itoa]; exact List.all_eq_true.2 (fun c hc => List.all_eq_true.1 (decDigits_dig x.natAbs) c hc)
theorem magB_val (x : Int) : val (magB (itoaB x)).data.toList = x.natAbs := by rw [magB_itoa]; exact val_decDigits _
theorem neg_itoaB (x : Int) : neg (itoaB x).data.toList = decide (x < 0) := by rw [itoaB_data, neg_itoa]
theorem brief_any (x : Int) (h : dlen x ≤ 100000) : ∃ v b, (b = true → dlen x ≤ 17) ∧ ∀ w, Calls Tryz.prog 41 #[.string (itoaB x)] w fun e w' => e = .returned (.tuple #[.int .i64 v, .bool b]) ∧ Below w.heap.size w w' := by
  by_cases hs : dlen x ≤ 17
  · exact ⟨x, true, fun _ => hs, fun w => brief_short x w hs⟩
  · exact ⟨0, false, fun h => by simp at h, fun w => brief_long x w (by omega) h⟩
theorem take_itoa (x : Int) (w : World) (h : dlen x ≤ 100000) : Calls Tryz.prog 43 #[.string (magB (itoaB x))] w (RetP w (pcN x.natAbs)) := by
  have := take_any (magB (itoaB x)) w (by rw [magB_dlen]; exact h) (magB_dig x)
  rwa [magB_val] at this

set_option maxRecDepth 100000 in
set_option maxHeartbeats 1000000 in
theorem add_brief (x y : Int) (w : World) (E : Env w) (hx : dlen x ≤ 17) (hy : dlen y ≤ 17) :
    Calls Tryz.prog 14 #[.string (itoaB x), .string (itoaB y)] w fun e w' => e = .returned (.string (itoaB (x + y))) ∧ Below w.heap.size w w' := by
  have e1 : x.natAbs < 100000000000000000 := Nat.lt_of_lt_of_le (dig_lt _) (Nat.pow_le_pow_right (by decide) hx)
  have e2 : y.natAbs < 100000000000000000 := Nat.lt_of_lt_of_le (dig_lt _) (Nat.pow_le_pow_right (by decide) hy)
  have b1 : ∀ w, Calls Tryz.prog 41 #[.string (itoaB x)] w fun e w' => e = .returned (.tuple #[.int .i64 x, .bool true]) ∧ Below w.heap.size w w' := fun w => brief_short x w hx
  have b2 : ∀ w, Calls Tryz.prog 41 #[.string (itoaB y)] w fun e w' => e = .returned (.tuple #[.int .i64 y, .bool true]) ∧ Below w.heap.size w w' := fun w => brief_short y w hy
  have ew : IntKind.i64.wrap (x + y) = x + y := IntWalk.i64_in _ (by omega)
  have B1 := Lib.hid b1
  have B2 := Lib.hid b2
  have o1 : ∀ w, Env w → Calls Tryz.prog 26 #[.int .i64 (x + y)] w fun e w' => e = .returned (.string (itoaB (x + y))) ∧ Below w.heap.size w w' := fun w E => refOf_any (x + y) (by omega) (by omega) w E
  have O := Lib.hid o1
  obtain ⟨a, ha⟩ : ∃ a, itoaB x = a := ⟨_, rfl⟩
  obtain ⟨b, hb0⟩ : ∃ b, itoaB y = b := ⟨_, rfl⟩
  rw [ha] at B1 ⊢
  rw [hb0] at B2 ⊢
  clear ha hb0 b1 b2 o1 e1 e2
  have hb := Below.refl w.heap.size w
  go_enter Tryz.func14, Tryz.ntmps14
  go_wp2_with (first
    | (go_at_call 41; first
      | (with_reducible refine (chain hb (B1.out _)).mono ?_; clear hb; rintro e w1 ⟨rfl, hb⟩)
      | (with_reducible refine (chain hb (B2.out _)).mono ?_; clear hb; rintro e w1 ⟨rfl, hb⟩))
    | (go_at_call 26; (try rw [ew]); refine (chain hb (O.out _ (E.below hb))).mono ?_; clear hb; rintro e w1 ⟨rfl, hb⟩))
  go_ret
  exact ⟨rfl, hb⟩
/-- The reference's sum. -/
theorem refAdd_any (x y : Int) (w : World) (E : Env w) (hx : dlen x ≤ 99999) (hy : dlen y ≤ 99999) :
    Calls Tryz.prog 14 #[.string (itoaB x), .string (itoaB y)] w fun e w' => e = .returned (.string (itoaB (x + y))) ∧ Below w.heap.size w w' := by
  by_cases hs : dlen x ≤ 17 ∧ dlen y ≤ 17
  · exact add_brief x y w E hs.1 hs.2
  obtain ⟨v1, b1, hb1, B1⟩ := brief_any x (by omega)
  obtain ⟨v2, b2, hb2, B2⟩ := brief_any y (by omega)
  have hn : (b1 && b2) = false := by
    rcases Bool.eq_false_or_eq_true (b1 && b2) with h | h
    · rw [Bool.and_eq_true] at h; exact absurd ⟨hb1 h.1, hb2 h.2⟩ hs
    · exact h
  have S : ∀ V, V ≤ x.natAbs + y.natAbs → (pcN V).length ≤ 100000 ∧ (Lib.decDigits V).length ≤ 1000000 := fun V hV => by
    have h := dec_add_len 99999 x.natAbs y.natAbs V (by omega) hx hy hV
    exact ⟨pcN_len_dec V 100000 h, by omega⟩
  have I : AddIn (itoaB x) (itoaB y) (magB (itoaB x)) (magB (itoaB y)) v1 v2 b1 b2 (decide (x < 0)) (decide (y < 0)) x.natAbs y.natAbs :=
    ⟨B1, B2, fun w => split_any _ w _ (neg_itoaB x), fun w => split_any _ w _ (neg_itoaB y), fun w => take_itoa x w (by omega), fun w => take_itoa y w (by omega),
      (S _ (by omega)).1, (S _ (by omega)).1, S⟩
  by_cases hxy : decide (x < 0) = decide (y < 0)
  · refine add_same I hxy hn _ ?_ w E
    rw [sgn_of (x + y) _ (x.natAbs + y.natAbs) ?_ ?_]
    · rfl
    · rw [decide_eq_decide] at hxy; omega
    · intro h0; rw [decide_eq_decide] at hxy ⊢; omega
  · have hne : decide (y < 0) = !decide (x < 0) := by cases hp : decide (x < 0) <;> cases hq : decide (y < 0) <;> simp_all
    have hsg : (x < 0 ∧ ¬ y < 0) ∨ (¬ x < 0 ∧ y < 0) := by
      rw [decide_eq_decide] at hxy; omega
    by_cases hlt : x.natAbs < y.natAbs
    · refine add_less I hne hn hlt _ ?_ w E
      rw [sgn_of (x + y) _ (y.natAbs - x.natAbs) ?_ ?_]
      · rfl
      · omega
      · intro h0; rw [← hne, decide_eq_decide]; omega
    · refine add_more I hne hn hlt _ ?_ w E
      rw [sgn_of (x + y) _ (x.natAbs - y.natAbs) ?_ ?_]
      · rfl
      · omega
      · intro h0; rw [decide_eq_decide]; omega
end Go.Proofs.YtkekdcmonenciaaGreatDoor.Kl
