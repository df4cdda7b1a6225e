/- The walk of klippelaw01.IntegerParses: true, whatever the input. -/
import Derived.Test.YtlfpigdolcpmfaaDoorKlKnown
import Derived.Test.YtlfpigdolcpmfaaDoorKlRefParse
namespace Go.Proofs.YtlfpigdolcpmfaaDoor.Kl
open Go Go.RowKit

set_option maxRecDepth 100000 in
set_option maxHeartbeats 1000000 in
theorem lawParses (s : ByteArray) (w : World) (E : Env w) (hs : s.size ≤ maxLen) :
    Calls Tryd.prog 5 #[.string s] w fun e w' => e = .returned (.bool true) ∧ Below w.heap.size w w' := by
  have hb := Below.refl w.heap.size w
  unfold maxLen at hs
  by_cases hl : 220 < s.size
  · go_enter Tryd.func5, Tryd.ntmps5
    go_wp2_with (go_at_call 6; refine (chain hb (known_any _ (E.below hb))).mono ?_; clear hb; rintro e w1 ⟨rfl, hb⟩)
    go_ret
    exact ⟨rfl, hb⟩
  · obtain ⟨x, hx⟩ : ∃ x, strOf (parseS s.data.toList).1 = x := ⟨_, rfl⟩
    obtain ⟨y, hy⟩ : ∃ y, (parseS s.data.toList).2 = y := ⟨_, rfl⟩
    have c1 : ∀ w, Calls Tryd.prog 14 #[.string s] w fun e w' => e = .returned (.tuple #[.string x, .int .i64 y]) ∧ w = w' := fun w => by
      rw [← hx, ← hy]; exact parse_any s w (by omega)
    have c2 : ∀ w, Calls Tryd.prog 15 #[.string s] w fun e w' => e = .returned (.tuple #[.string x, .int .i64 y]) ∧ Below w.heap.size w w' := fun w => by
      rw [← hx, ← hy]; exact refParse_any s w (by omega)
    have C1 := Lib.hid c1
    have C2 := Lib.hid c2
    clear c1 c2 hx hy
    go_enter Tryd.func5, Tryd.ntmps5
    go_wp2_with (first | (go_at_call 6; refine (chain hb (known_any _ (E.below hb))).mono ?_; clear hb; rintro e w1 ⟨rfl, hb⟩) | (go_at_call 14; refine (chainq hb (C1.out _)).mono ?_; clear hb; rintro e w1 ⟨rfl, hb⟩) | (go_at_call 15; refine (chain hb (C2.out _)).mono ?_; clear hb; rintro e w1 ⟨rfl, hb⟩))
    go_ret
    exact ⟨rfl, hb⟩
end Go.Proofs.YtlfpigdolcpmfaaDoor.Kl
