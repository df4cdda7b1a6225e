/- The walk of klippelaw01.IntegerChecks: true, whatever the input. -/
import Derived.Test.YtlfpigdolcpmfaaDoorKlKnown
import Derived.Test.YtlfpigdolcpmfaaDoorKlCheck
import Derived.Lib.ItoaLen
namespace Go.Proofs.YtlfpigdolcpmfaaDoor.Kl
open Go Go.RowKit

theorem itoaB_le (n : Int) (h0 : -9223372036854775808 ≤ n) (h1 : n ≤ 9223372036854775807) : (itoaB n).size ≤ 1000000 := by
  have := Lib.itoa_length_le n h0 h1
  unfold itoaB; rw [strOf_size]; omega
theorem small_itoa (n : Int) (h0 : -9223372036854775808 ≤ n) (h1 : n ≤ 9223372036854775807) (w : World) (E : Env w) :
    Calls Tryd.prog 8 #[.string (itoaB n)] w fun e w' => e = .returned (.tuple #[.int .i64 n, .bool true]) ∧ Below w.heap.size w w' :=
  (small_any (itoaB n) w (itoaB_le n h0 h1) E).mono fun _ _ ⟨a, b⟩ => ⟨a.trans (retIB (by
    unfold smI; rw [show (itoaB n).data.toList = Lib.itoa n from rfl, smallV_itoa n h0 h1]; rfl) (by
    unfold smB; rw [show (itoaB n).data.toList = Lib.itoa n from rfl, smallV_itoa n h0 h1]; rfl)), b⟩

set_option maxRecDepth 100000 in
set_option maxHeartbeats 2000000 in
theorem lawChecks (s : ByteArray) (n : Int) (w : World) (E : Env w) (hs : s.size ≤ maxLen) (h0 : -9223372036854775808 ≤ n) (h1 : n ≤ 9223372036854775807) :
    Calls Tryd.prog 3 #[.string s, .int .i64 n] w fun e w' => e = .returned (.bool true) ∧ Below w.heap.size w w' := by
  have hb := Below.refl w.heap.size w
  unfold maxLen at hs
  by_cases hl : 220 < s.size
  · go_enter Tryd.func3, Tryd.ntmps3
    go_wp2_with (go_at_call 6; refine (chain hb (known_any _ (E.below hb))).mono ?_; clear hb; rintro e w1 ⟨rfl, hb⟩)
    go_ret
    exact ⟨rfl, hb⟩
  · cases hr : rightB s.data.toList with
    | true =>
      have HR := Lib.hid hr
      clear hr
      go_enter Tryd.func3, Tryd.ntmps3
      go_wp2_with (first | (go_at_call 6; refine (chain hb (known_any _ (E.below hb))).mono ?_; clear hb; rintro e w1 ⟨rfl, hb⟩) | (go_at_call 7; refine (chain hb (right_any _ _ (by omega) _ HR.out)).mono ?_; clear hb; rintro e w1 ⟨rfl, hb⟩) | (go_at_call 9; refine (chain hb (of_any _ h0 h1 _ (E.below hb))).mono ?_; clear hb; rintro e w1 ⟨rfl, hb⟩) | (go_at_call 8; refine (chain hb (small_itoa _ h0 h1 _ (E.below hb))).mono ?_; clear hb; rintro e w1 ⟨rfl, hb⟩) | (go_at_call 10; refine (chainq hb (check_any _ _ (by omega) 0 (by rw [HR.out]; rfl))).mono ?_; clear hb; rintro e w1 ⟨rfl, hb⟩) | (go_at_call 11; refine (chain hb (refOf_any _ h0 h1 _ (E.below hb))).mono ?_; clear hb; rintro e w1 ⟨rfl, hb⟩))
      go_ret
      exact ⟨rfl, hb⟩
    | false =>
      have HR := Lib.hid hr
      clear hr
      go_enter Tryd.func3, Tryd.ntmps3
      go_wp2_with (first | (go_at_call 6; refine (chain hb (known_any _ (E.below hb))).mono ?_; clear hb; rintro e w1 ⟨rfl, hb⟩) | (go_at_call 7; refine (chain hb (right_any _ _ (by omega) _ HR.out)).mono ?_; clear hb; rintro e w1 ⟨rfl, hb⟩) | (go_at_call 9; refine (chain hb (of_any _ h0 h1 _ (E.below hb))).mono ?_; clear hb; rintro e w1 ⟨rfl, hb⟩) | (go_at_call 8; refine (chain hb (small_itoa _ h0 h1 _ (E.below hb))).mono ?_; clear hb; rintro e w1 ⟨rfl, hb⟩) | (go_at_call 10; refine (chainq hb (check_any _ _ (by omega) 2 (by rw [HR.out]; rfl))).mono ?_; clear hb; rintro e w1 ⟨rfl, hb⟩) | (go_at_call 11; refine (chain hb (refOf_any _ h0 h1 _ (E.below hb))).mono ?_; clear hb; rintro e w1 ⟨rfl, hb⟩))
      go_ret
      exact ⟨rfl, hb⟩
end Go.Proofs.YtlfpigdolcpmfaaDoor.Kl
