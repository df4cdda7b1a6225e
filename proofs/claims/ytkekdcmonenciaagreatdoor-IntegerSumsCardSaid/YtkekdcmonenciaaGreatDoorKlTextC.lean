/- Contracts: the text of a number. -/
import Derived.Test.YtkekdcmonenciaaGreatDoorKlTextA
import Derived.Test.YtkekdcmonenciaaGreatDoorKlTextB
import Derived.Test.YtkekdcmonenciaaGreatDoorKlGive
import Derived.Test.YtkekdcmonenciaaGreatDoorKlSub
namespace Go.Proofs.YtkekdcmonenciaaGreatDoor.Kl
open Go Go.RowKit

set_option maxRecDepth 100000 in
set_option maxHeartbeats 1000000 in
theorem text_zero (m : Bool) (p : Option Addr) (c : Nat) (w : World) :
    Calls Tryz.prog 40 #[.agg #[.bool m, .slice p 0 c]] w fun e w' => e = .returned (.string ⟨#[48]⟩) ∧ Below w.heap.size w w' := by
  go_enter Tryz.func40, Tryz.ntmps40
  go_wp2
  go_ret
  exact ⟨rfl, (Below.refl _ _).alloc (Nat.le_refl _) _⟩
/-- The text of a number. -/
theorem text_sm (m : Bool) (p : Option Addr) (n c X : Nat) (w : World) (E : Env w) (h : Sm w p n c X) (hX : (pcM X).length ≤ 100000) :
    Calls Tryz.prog 40 #[.agg #[.bool m, .slice p n c]] w fun e w' => e = .returned (.string (itoaB (sgI m X))) ∧ Below w.heap.size w w' := by
  by_cases h0 : X = 0
  · subst h0
    have hn := h.len
    rw [pcM_zero] at hn
    obtain rfl : n = 0 := hn
    rw [show sgI m 0 = 0 by cases m <;> rfl, show itoaB 0 = ⟨#[48]⟩ from itoa_zero]
    exact text_zero m p c w
  · rcases h.has with hx | ⟨b, o, rfl, hlt, hc⟩
    · exact absurd (pcM_nil (by rw [hx]; rfl)) h0
    · obtain ⟨l, hl⟩ : ∃ l, (pcM X).length = l + 1 := by
        rcases hq : (pcM X).length with _ | l
        · exact absurd (pcM_nil hq) h0
        · exact ⟨l, rfl⟩
      have hn := h.len
      have hcap := h.cap
      rw [hl] at hn hX hc
      subst hn
      cases m with
      | false =>
        have := text_plus b o c l X w E hl (by omega) hcap hlt hc
        rwa [show strOf ([] ++ Lib.decDigits X) = itoaB (sgI false X) by unfold itoaB; rw [sgI_f, itoa_nat _ (by omega)]; rfl] at this
      | true =>
        have := text_minus b o c l X w E hl (by omega) hcap hlt hc
        rwa [show strOf ([45] ++ Lib.decDigits X) = itoaB (sgI true X) by
          unfold itoaB; rw [sgI_t, ← sgn_of (-(X : Int)) true X (by omega) (fun _ => by rw [decide_eq_true (by omega)])]
          unfold sgn; rw [decide_eq_true (by omega : 0 < X)]; rfl] at this
end Go.Proofs.YtkekdcmonenciaaGreatDoor.Kl
