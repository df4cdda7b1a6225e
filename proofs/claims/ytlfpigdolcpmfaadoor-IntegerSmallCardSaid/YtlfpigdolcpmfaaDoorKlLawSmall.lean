/- The walk of klippelaw01.IntegerSmall: true, whatever the description. -/
import Derived.Test.YtlfpigdolcpmfaaDoorKlKnown
import Derived.Test.YtlfpigdolcpmfaaDoorKlRefSmall
import Derived.Test.YtlfpigdolcpmfaaDoorKlMake
namespace Go.Proofs.YtlfpigdolcpmfaaDoor.Kl
open Go Go.RowKit

theorem strip_head (l : List UInt8) : (strip l).head? ≠ some 48 := by
  intro e
  have h3 := List.head?_dropWhile_not (· == 48) l
  unfold strip at e
  rw [e] at h3
  simp at h3
/-- What a description gives is canonical. -/
theorem canon_digits {l : List UInt8} (h : digB l = true) (h48 : l.head? = some 48 → l = [48]) : canonB l = true := by
  have hn := neg_dig (digB_iff.1 h).1
  have hm := mag_pos hn
  by_cases e : l.head? = some 48
  · rw [h48 e]; decide
  · exact canon_of (by rw [hm]; exact h) (by rw [hm]; exact e)
theorem makeA_head {l : List UInt8} (h : l.all isDig = true) : (makeA l).head? = some 48 → makeA l = [48] := by
  unfold makeA
  by_cases h0 : l = []
  · rw [if_pos h0]; exact fun _ => rfl
  · rw [if_neg h0, strip1_eq l h h0]
    by_cases hz : strip l = []
    · rw [if_pos hz]; exact fun _ => rfl
    · rw [if_neg hz]; exact fun e => absurd e (strip_head l)
theorem canon_make (b : Bool) {l : List UInt8} (h : l.all isDig = true) : canonB (makeS b l) = true := by
  have hd := makeA_dig h
  have hh := makeA_head h
  unfold makeS
  cases b with
  | false => exact canon_digits hd hh
  | true =>
    rw [if_pos rfl]
    unfold negDig
    by_cases e : makeA l = [48]
    · rw [if_pos e]; decide
    · rw [if_neg e]
      have hm : mag (45 :: makeA l) = makeA l := by rw [mag_cons]; rfl
      exact canon_of (by rw [hm]; exact hd) (by rw [hm]; exact fun x => e (hh x))
theorem strip1_le : ∀ l : List UInt8, (strip1 l).length ≤ l.length
  | [] => Nat.le_refl _
  | [_] => Nat.le_refl _
  | c :: d :: r => by
    unfold strip1
    split
    · have := strip1_le (d :: r); simp at this ⊢; omega
    · exact Nat.le_refl _
theorem makeS_le (b : Bool) (l : List UInt8) : (makeS b l).length ≤ l.length + 2 := by
  have h1 : (makeA l).length ≤ l.length + 1 := by
    unfold makeA; split
    · simp
    · have := strip1_le l; omega
  unfold makeS
  cases b with
  | false => exact Nat.le_trans h1 (by omega)
  | true =>
    rw [if_pos rfl]
    unfold negDig
    split
    · simp
    · rw [List.length_cons]; omega

set_option maxRecDepth 100000 in
set_option maxHeartbeats 1000000 in
theorem lawSmall (b : Bool) (p : Option Addr) (len cap : Nat) (l : List UInt8) (hl : l.all isDig = true) (hll : l.length ≤ 200) (w : World) (E : Env w)
    (hmake : ∀ w', Below w.heap.size w w' → Calls Tryd.prog 12 #[.agg #[.bool b, .slice p len cap], .int .i64 (24 : Nat)] w' fun e w'' => e = .returned (.string (strOf (makeS b l))) ∧ Below w'.heap.size w' w'') :
    Calls Tryd.prog 4 #[.agg #[.bool b, .slice p len cap]] w fun e w' => e = .returned (.bool true) ∧ Below w.heap.size w w' := by
  obtain ⟨a, ha⟩ : ∃ a, strOf (makeS b l) = a := ⟨_, rfl⟩
  have hd : a.data.toList = makeS b l := by rw [← ha]; rfl
  have hsz : a.size ≤ 1000000 := by rw [← ha, strOf_size]; have := makeS_le b l; omega
  have hcan : canonB a.data.toList = true := by rw [hd]; exact canon_make b hl
  rw [ha] at hmake
  obtain ⟨x, hx⟩ : ∃ x, smI a.data.toList = x := ⟨_, rfl⟩
  obtain ⟨y, hy⟩ : ∃ y, smB a.data.toList = y := ⟨_, rfl⟩
  have c1 : ∀ w, Env w → Calls Tryd.prog 8 #[.string a] w fun e w' => e = .returned (.tuple #[.int .i64 x, .bool y]) ∧ Below w.heap.size w w' := fun w E => by
    rw [← hx, ← hy]; exact small_any a w hsz E
  have c2 : ∀ w, Calls Tryd.prog 13 #[.string a] w fun e w' => e = .returned (.tuple #[.int .i64 x, .bool y]) ∧ Below w.heap.size w w' := fun w => by
    rw [← hx, ← hy]; exact refSmall_any a w hsz hcan
  have C1 := Lib.hid c1
  have C2 := Lib.hid c2
  have M := Lib.hid hmake
  clear c1 c2 hmake hx hy hcan hd ha hl
  have hb0 : Below w.heap.size w (w.alloc (.cells #[.bool b, .slice p len cap] 33)) := (Below.refl _ _).alloc (Nat.le_refl _) _
  go_enter Tryd.func4, Tryd.ntmps4
  go_wp2_with (go_at_call 6; refine (known_any _ (E.below hb0)).mono ?_; rintro e w1 ⟨rfl, hb1⟩; refine Hid.out ?_)
  refine Lib.hid ?_
  have x0 : w1.cell? ⟨w.heap.size, 0, none⟩ = some (Value.bool b) := by rw [hb1.cell (p := ⟨w.heap.size, 0, none⟩) (by simp)]; simp [go_sem]
  have x1 : w1.cell? ⟨w.heap.size, 1, none⟩ = some (Value.slice p len cap) := by rw [hb1.cell (p := ⟨w.heap.size, 1, none⟩) (by simp)]; simp [go_sem]
  have hb := hb0.trans (hb1.mono hb0.size)
  clear hb0 hb1
  go_wp2_with (first | (go_at_call 12; refine (chain hb (M.out _ hb)).mono ?_; clear hb; rintro e w2 ⟨rfl, hb⟩) | (go_at_call 8; refine (chain hb (C1.out _ (E.below hb))).mono ?_; clear hb; rintro e w2 ⟨rfl, hb⟩) | (go_at_call 13; refine (chain hb (C2.out _)).mono ?_; clear hb; rintro e w2 ⟨rfl, hb⟩))
  go_ret
  exact ⟨rfl, hb⟩
end Go.Proofs.YtlfpigdolcpmfaaDoor.Kl
