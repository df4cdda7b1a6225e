/- The walk of klippelaw01.IntegerPowers: true, whatever the description and the exponent. -/
import Derived.Test.YtkekdcmonenciaaGreatDoorKlKnown
import Derived.Test.YtkekdcmonenciaaGreatDoorKlMadeI
import Derived.Test.YtkekdcmonenciaaGreatDoorKlPower
namespace Go.Proofs.YtkekdcmonenciaaGreatDoor.Kl
open Go Go.RowKit

theorem made_itoa3 (b : Bool) {l : List UInt8} (hl : l.all isDig = true) (hll : l.length ≤ 200) : ∃ x : Int, strOf (makeS b l) = itoaB x ∧ dlen x ≤ 300 := by
  obtain ⟨x, hx, hd⟩ := canon_is_itoa (canon_make b hl)
  refine ⟨x, by unfold itoaB; rw [← hx], ?_⟩
  have h1 := makeS_le b l
  have h2 := mag_length (makeS b l)
  rw [hd, h2]; omega
/-- What the three ways of the law have in common. -/
structure PowIn (w : World) (b1 : Bool) (p1 : Option Addr) (n1 c1 : Nat) (a ab : ByteArray) (D : Nat) : Prop where
  mkc : ∀ w', Below w.heap.size w w' → Calls Tryz.prog 12 #[.agg #[.bool b1, .slice p1 n1 c1], .int .i64 12] w' fun e w'' => e = .returned (.string a) ∧ Below w'.heap.size w' w''
  abc : ∀ w, Calls Tryz.prog 20 #[.string a] w fun e w' => e = .returned (.string ab) ∧ Below w.heap.size w w'
  sz : (ab.size : Int) = D
  d0 : 0 < D
  d1 : D ≤ 300

set_option maxRecDepth 100000 in
set_option maxHeartbeats 4000000 in
theorem pow_way (b1 : Bool) (p1 : Option Addr) (n1 c1 : Nat) (a ab r : ByteArray) (D : Nat) (z er : Int) (w : World) (E : Env w) (I : PowIn w b1 p1 n1 c1 a ab D)
    (hp : ∀ w, Env w → Calls Tryz.prog 19 #[.string a, .int .i64 z] w fun e w' => e = .returned (.tuple #[.string r, .int .i64 er]) ∧ Below w.heap.size w w')
    (h : (z < 0 ∧ r = ⟨#[]⟩ ∧ er = 3) ∨ (0 ≤ z ∧ (5000 : Int) / D < z ∧ r = ⟨#[]⟩ ∧ er = 4) ∨ (0 ≤ z ∧ z ≤ (5000 : Int) / D ∧ er = 0 ∧ (25 < z ∨ (z ≤ 25 ∧ ∀ w, Env w → Calls Tryz.prog 21 #[.string a, .int .i64 z] w fun e w' => e = .returned (.string r) ∧ Below w.heap.size w w')))) :
    Calls Tryz.prog 5 #[.agg #[.bool b1, .slice p1 n1 c1], .int .i64 z] w fun e w' => e = .returned (.bool true) ∧ Below w.heap.size w w' := by
  have hsz := I.sz
  have hd0 := I.d0
  have hd1 := I.d1
  have hq0 : 0 ≤ (5000 : Int) / D := Int.ediv_nonneg (by decide) (by omega)
  have hq1 : (5000 : Int) / D ≤ 5000 := Int.ediv_le_self _ (by decide)
  have HP := Lib.hid hp
  have hDi : (0 : Int) < (D : Int) := by omega
  have hb1 : Below w.heap.size w (w.alloc (.cells #[.bool b1, .slice p1 n1 c1] 24)) := (Below.refl _ _).alloc (Nat.le_refl _) _
  have KN := Lib.hid (known_any _ (E.below hb1))
  have HB1 := Lib.hid hb1
  clear hp hb1
  rcases h with ⟨hz, rfl, rfl⟩ | ⟨hz, hz2, rfl, rfl⟩ | ⟨hz, hz2, rfl, h3⟩
  · go_enter Tryz.func5, Tryz.ntmps5
    go_wp2_with (go_at_call 11; refine KN.out.mono ?_; rintro e w1 ⟨rfl, hb3⟩; refine Hid.out ?_)
    refine Lib.hid ?_
    have x0 : w1.cell? ⟨w.heap.size, 0, none⟩ = some (Value.bool b1) := by rw [hb3.cell (p := ⟨w.heap.size, 0, none⟩) (by simp only [World.size_alloc]; omega)]; simp [go_sem]
    have x1 : w1.cell? ⟨w.heap.size, 1, none⟩ = some (Value.slice p1 n1 c1) := by rw [hb3.cell (p := ⟨w.heap.size, 1, none⟩) (by simp only [World.size_alloc]; omega)]; simp [go_sem]
    have hb := HB1.out.trans (hb3.mono HB1.out.size)
    clear hb3
    go_wp2_with (first | (go_at_call 12; refine (chain hb (I.mkc _ hb)).mono ?_; clear hb; rintro e w2 ⟨rfl, hb⟩) | (go_at_call 19; refine (chain hb (HP.out _ (E.below hb))).mono ?_; clear hb; rintro e w2 ⟨rfl, hb⟩))
    go_ret
    exact ⟨rfl, hb⟩
  · have hz0 : ¬ z < 0 := by omega
    go_enter Tryz.func5, Tryz.ntmps5
    go_wp2_with (go_at_call 11; refine KN.out.mono ?_; rintro e w1 ⟨rfl, hb3⟩; refine Hid.out ?_)
    refine Lib.hid ?_
    have x0 : w1.cell? ⟨w.heap.size, 0, none⟩ = some (Value.bool b1) := by rw [hb3.cell (p := ⟨w.heap.size, 0, none⟩) (by simp only [World.size_alloc]; omega)]; simp [go_sem]
    have x1 : w1.cell? ⟨w.heap.size, 1, none⟩ = some (Value.slice p1 n1 c1) := by rw [hb3.cell (p := ⟨w.heap.size, 1, none⟩) (by simp only [World.size_alloc]; omega)]; simp [go_sem]
    have hb := HB1.out.trans (hb3.mono HB1.out.size)
    clear hb3
    have hq : wrap64 ((5000 : Int) / (D : Int)) = 5000 / (D : Int) := IntWalk.wrap64_in _ ⟨by omega, by omega⟩
    go_wp2_with (first | (go_at_call 12; refine (chain hb (I.mkc _ hb)).mono ?_; clear hb; rintro e w2 ⟨rfl, hb⟩) | (go_at_call 19; refine (chain hb (HP.out _ (E.below hb))).mono ?_; clear hb; rintro e w2 ⟨rfl, hb⟩) | (go_at_call 20; refine (chain hb (I.abc _)).mono ?_; clear hb; rintro e w2 ⟨rfl, hb⟩))
    go_ret
    exact ⟨rfl, hb⟩
  · have hz0 : ¬ z < 0 := by omega
    have hz3 : ¬ (5000 : Int) / D < z := by omega
    go_enter Tryz.func5, Tryz.ntmps5
    go_wp2_with (go_at_call 11; refine KN.out.mono ?_; rintro e w1 ⟨rfl, hb3⟩; refine Hid.out ?_)
    refine Lib.hid ?_
    have x0 : w1.cell? ⟨w.heap.size, 0, none⟩ = some (Value.bool b1) := by rw [hb3.cell (p := ⟨w.heap.size, 0, none⟩) (by simp only [World.size_alloc]; omega)]; simp [go_sem]
    have x1 : w1.cell? ⟨w.heap.size, 1, none⟩ = some (Value.slice p1 n1 c1) := by rw [hb3.cell (p := ⟨w.heap.size, 1, none⟩) (by simp only [World.size_alloc]; omega)]; simp [go_sem]
    have hb := HB1.out.trans (hb3.mono HB1.out.size)
    clear hb3
    have hq : wrap64 ((5000 : Int) / (D : Int)) = 5000 / (D : Int) := IntWalk.wrap64_in _ ⟨by omega, by omega⟩
    rcases h3 with h25 | ⟨h25, hrp⟩
    · go_wp2_with (first | (go_at_call 12; refine (chain hb (I.mkc _ hb)).mono ?_; clear hb; rintro e w2 ⟨rfl, hb⟩) | (go_at_call 19; refine (chain hb (HP.out _ (E.below hb))).mono ?_; clear hb; rintro e w2 ⟨rfl, hb⟩) | (go_at_call 20; refine (chain hb (I.abc _)).mono ?_; clear hb; rintro e w2 ⟨rfl, hb⟩))
      go_ret
      exact ⟨rfl, hb⟩
    · have h26 : ¬ (25 : Int) < z := by omega
      have RP := Lib.hid hrp
      clear hrp
      go_wp2_with (first | (go_at_call 12; refine (chain hb (I.mkc _ hb)).mono ?_; clear hb; rintro e w2 ⟨rfl, hb⟩) | (go_at_call 19; refine (chain hb (HP.out _ (E.below hb))).mono ?_; clear hb; rintro e w2 ⟨rfl, hb⟩) | (go_at_call 20; refine (chain hb (I.abc _)).mono ?_; clear hb; rintro e w2 ⟨rfl, hb⟩) | (go_at_call 21; refine (chain hb (RP.out _ (E.below hb))).mono ?_; clear hb; rintro e w2 ⟨rfl, hb⟩))
      go_ret
      exact ⟨rfl, hb⟩

theorem lawPowers (b1 : Bool) (p1 : Option Addr) (n1 c1 : Nat) (l1 : List UInt8) (hl1 : l1.all isDig = true) (hll1 : l1.length ≤ 200) (z : Int) (_hz : -9223372036854775808 ≤ z ∧ z ≤ 9223372036854775807) (w : World) (E : Env w)
    (hm1 : ∀ w', Below w.heap.size w w' → Calls Tryz.prog 12 #[.agg #[.bool b1, .slice p1 n1 c1], .int .i64 12] w' fun e w'' => e = .returned (.string (strOf (makeS b1 l1))) ∧ Below w'.heap.size w' w'') :
    Calls Tryz.prog 5 #[.agg #[.bool b1, .slice p1 n1 c1], .int .i64 z] w fun e w' => e = .returned (.bool true) ∧ Below w.heap.size w w' := by
  obtain ⟨x, hx, hdx⟩ := made_itoa3 b1 hl1 hll1
  rw [hx] at hm1
  have hd0 : 0 < dlen x := List.length_pos_iff.2 (decDigits_ne x.natAbs)
  have I : PowIn w b1 p1 n1 c1 (itoaB x) (itoaB x.natAbs) (dlen x) := ⟨hm1, fun w => refAbs_any x w, by
    have : (itoaB (x.natAbs : Int)).size = dlen x := by
      unfold itoaB; rw [strOf_size, itoa_nat _ (by omega)]; rfl
    omega, hd0, hdx⟩
  by_cases h0 : z < 0
  · exact pow_way b1 p1 n1 c1 _ _ ⟨#[]⟩ (dlen x) z 3 w E I (fun w _ => power_neg x z w h0) (.inl ⟨h0, rfl, rfl⟩)
  · by_cases h1 : (5000 : Int) / dlen x < z
    · exact pow_way b1 p1 n1 c1 _ _ ⟨#[]⟩ (dlen x) z 4 w E I (fun w _ => power_big x z w (by omega) h1) (.inr (.inl ⟨by omega, h1, rfl, rfl⟩))
    · obtain ⟨e, rfl⟩ : ∃ e : Nat, z = e := ⟨z.toNat, by omega⟩
      have he : dlen x * e ≤ 5000 := by
        have h2 : (e : Int) ≤ (5000 : Int) / dlen x := by omega
        rw [Int.le_ediv_iff_mul_le (by omega)] at h2
        have h3 : ((e * dlen x : Nat) : Int) ≤ 5000 := by rw [Int.natCast_mul]; exact h2
        rw [Nat.mul_comm]; omega
      refine pow_way b1 p1 n1 c1 _ _ (itoaB (x ^ e)) (dlen x) e 0 w E I (fun w E => power_ok x e w E (by omega) he) (.inr (.inr ⟨by omega, by omega, rfl, ?_⟩))
      by_cases h25 : (25 : Int) < e
      · exact .inl h25
      · exact .inr ⟨by omega, fun w E => refPower_any x e w E (by omega) (by omega)⟩
end Go.Proofs.YtkekdcmonenciaaGreatDoor.Kl
