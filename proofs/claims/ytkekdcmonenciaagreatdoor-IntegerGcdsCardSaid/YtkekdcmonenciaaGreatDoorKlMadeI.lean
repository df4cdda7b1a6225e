/- What a description makes is the text of an integer. -/
import Derived.Test.YtkekdcmonenciaaGreatDoorKlKnown
import Derived.Test.YtkekdcmonenciaaGreatDoorKlMade
import Derived.Test.YtkekdcmonenciaaGreatDoorKlIsItoa
namespace Go.Proofs.YtkekdcmonenciaaGreatDoor.Kl
open Go Go.RowKit

/-- What a description makes is the text of an integer. -/
theorem made_itoa (b : Bool) {l : List UInt8} (hl : l.all isDig = true) (hll : l.length ≤ 200) : ∃ x : Int, strOf (makeS b l) = itoaB x ∧ dlen x ≤ 1000 := by
  obtain ⟨x, hx, hd⟩ := canon_is_itoa (canon_make b hl)
  refine ⟨x, by unfold itoaB; rw [← hx], ?_⟩
  have h1 := makeS_le b l
  have h2 := mag_length (makeS b l)
  rw [hd, h2]; omega
end Go.Proofs.YtkekdcmonenciaaGreatDoor.Kl
