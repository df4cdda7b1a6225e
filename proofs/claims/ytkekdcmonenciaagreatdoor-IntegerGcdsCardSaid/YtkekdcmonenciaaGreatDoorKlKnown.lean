/- The chapter's examples, which every statement of layer 1 checks first, are as the chapter says: 'known' returns true. -/
import Derived.Test.YtkekdcmonenciaaGreatDoorKlRoot2
namespace Go.Proofs.YtkekdcmonenciaaGreatDoor.Kl
open Go Go.RowKit

theorem known_parse1 (w : World) : Calls Tryz.prog 33 #[.string ⟨#[43, 48, 48, 55]⟩] w fun e w' => e = .returned (.tuple #[.string ⟨#[55]⟩, .int .i64 0]) ∧ w = w' :=
  (parse_any ⟨#[43, 48, 48, 55]⟩ w (by decide)).mono fun _ _ ⟨h, k⟩ => ⟨h.trans (retSI (by decide) (by decide)), k⟩
theorem known_parse2 (w : World) : Calls Tryz.prog 33 #[.string ⟨#[45, 45, 49]⟩] w fun e w' => e = .returned (.tuple #[.string ⟨#[]⟩, .int .i64 15]) ∧ w = w' :=
  (parse_any ⟨#[45, 45, 49]⟩ w (by decide)).mono fun _ _ ⟨h, k⟩ => ⟨h.trans (retSI (by decide) (by decide)), k⟩
theorem known_root (w : World) (E : Env w) : Calls Tryz.prog 27 #[.string ⟨#[57, 57]⟩] w fun e w' => e = .returned (.tuple #[.string ⟨#[57]⟩, .int .i64 0]) ∧ Below w.heap.size w w' :=
  (root99 w E).mono fun _ _ ⟨h, k⟩ => ⟨h.trans (retSI (by decide +kernel) rfl), k⟩
theorem known_gcd (w : World) (E : Env w) : Calls Tryz.prog 24 #[.string ⟨#[45, 49, 50]⟩, .string ⟨#[49, 56]⟩] w fun e w' => e = .returned (.string ⟨#[54]⟩) ∧ Below w.heap.size w w' :=
  (gcd_short ⟨#[45, 49, 50]⟩ ⟨#[49, 56]⟩ w (by decide) (by decide) (-12) 18 (by decide) (by decide) E (by decide) (by decide) (by decide) (by decide)).mono fun _ _ ⟨h, k⟩ => ⟨h.trans (retS (by decide +kernel)), k⟩
theorem known_mul (w : World) (E : Env w) : Calls Tryz.prog 17 #[.string ⟨#[45, 51]⟩, .string ⟨#[53]⟩] w fun e w' => e = .returned (.string ⟨#[45, 49, 53]⟩) ∧ Below w.heap.size w w' :=
  (mul_short ⟨#[45, 51]⟩ ⟨#[53]⟩ w (by decide) (-3) 5 (by decide) (by decide) E (by decide) (by decide)).mono fun _ _ ⟨h, k⟩ => ⟨h.trans (retS (by decide +kernel)), k⟩

set_option maxRecDepth 100000 in
set_option maxHeartbeats 1000000 in
theorem known_any (w : World) (E : Env w) :
    Calls Tryz.prog 11 #[] w fun e w' => e = .returned (.bool true) ∧ Below w.heap.size w w' := by
  have hb := Below.refl w.heap.size w
  go_enter Tryz.func11, Tryz.ntmps11
  go_wp2_with (first | (go_at_call 22; refine (chain hb (known_divMod _ (E.below hb))).mono ?_; clear hb; rintro e w1 ⟨rfl, hb⟩) | (go_at_call 33; (first | (with_reducible refine (chainq hb (known_parse1 _)).mono ?_) | (with_reducible refine (chainq hb (known_parse2 _)).mono ?_)); clear hb; rintro e w1 ⟨rfl, hb⟩) | (go_at_call 27; refine (chain hb (known_root _ (E.below hb))).mono ?_; clear hb; rintro e w1 ⟨rfl, hb⟩) | (go_at_call 24; refine (chain hb (known_gcd _ (E.below hb))).mono ?_; clear hb; rintro e w1 ⟨rfl, hb⟩) | (go_at_call 17; refine (chain hb (known_mul _ (E.below hb))).mono ?_; clear hb; rintro e w1 ⟨rfl, hb⟩))
  go_ret
  exact ⟨rfl, hb⟩
end Go.Proofs.YtkekdcmonenciaaGreatDoor.Kl
