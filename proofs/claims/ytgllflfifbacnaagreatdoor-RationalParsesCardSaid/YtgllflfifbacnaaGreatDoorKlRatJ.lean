/- Contracts: the reference's digits and plain. -/
import Derived.Test.YtgllflfifbacnaaGreatDoorKlRatZ
import Derived.Test.YtgllflfifbacnaaGreatDoorKlRefParse
namespace Go.Proofs.YtgllflfifbacnaaGreatDoor.Kl
open Go Go.RowKit

theorem eqnil_false (s : ByteArray) (h : 0 < s.size) : (s.toList == []) = false := by rw [nil_beq]; exact empty_false s h
theorem eqnil_true (s : ByteArray) (h : s.size = 0) : (s.toList == []) = true := by rw [nil_beq]; exact empty_true s h
set_option maxRecDepth 100000 in
set_option maxHeartbeats 1000000 in
theorem refDigits_any (s : ByteArray) (b : Bool) (h : digB s.data.toList = b) (hs : s.size ≤ 1000000) (w : World) (_R : EnvR w) :
    Calls Tryz.prog 92 #[.string s] w fun e w' => e = .returned (.bool b) ∧ Below w.heap.size w w' := by
  have H := Lib.hid h
  clear h
  have hb := Below.refl w.heap.size w
  go_enter Tryz.func92, Tryz.ntmps92
  go_wp2
  go_loop [3] (fun i => ∃ k : Nat, k ≤ s.size ∧ i = .int .i64 k ∧ (s.data.toList.take k).all isDig = true) (fun i => s.size - (intOf i).toNat)
  case atStart => exact ⟨0, Nat.zero_le _, rfl, rfl⟩
  case round =>
    obtain ⟨k, hk, rfl, hall⟩ := hrel
    have HA := Lib.hid hall
    clear hall
    by_cases hlt : k < s.size
    · go_wp2
      · have hy : (s[k].toNat : Int) < 48 ∨ 57 < (s[k].toNat : Int) := by assumption
        go_ret
        exact ⟨retB (by rw [← H.out]; exact (digB_false_at s k hlt (hy.elim isDig_lt isDig_gt)).symm), hb⟩
      · have hy : 48 ≤ (s[k].toNat : Int) ∧ (s[k].toNat : Int) ≤ 57 := by assumption
        go_round
        case rel => exact ⟨k + 1, by omega, by go_num, all_step s k hlt HA.out (isDig_in hy.1 hy.2)⟩
        case measure => simp [intOf]; omega
      · have hy : (s[k].toNat : Int) < 48 := by assumption
        go_ret
        exact ⟨retB (by rw [← H.out]; exact (digB_false_at s k hlt (isDig_lt hy)).symm), hb⟩
    · obtain rfl : k = s.size := by omega
      by_cases hz : s.size = 0
      · have hez := empty_true s hz
        have hez2 := eqnil_true s hz
        have HZ := Lib.hid hz
        clear hz
        go_wp2
        go_ret
        exact ⟨retB (by rw [← H.out, size_zero_eq s HZ.out]; rfl), hb⟩
      · have hez := empty_false s (by omega)
        have hez2 := eqnil_false s (by omega)
        have HG2 := Lib.hid (digB_of HA.out (by omega : 0 < s.size))
        go_wp2
        go_ret
        exact ⟨retB (by rw [← H.out]; exact HG2.out.symm), hb⟩
theorem plain_text {s t : ByteArray} (h : digB s.data.toList = true) (ht : t.data.toList = strip1 s.data.toList) : t = itoaB (val s.data.toList : Nat) := by
  obtain ⟨h1, h2⟩ := digB_iff.1 h
  refine dat_inj ?_
  rw [ht, strip1_eq _ h1 h2, strip_dec h]
  rw [itoaB_data]
  unfold Lib.itoa
  rw [if_neg (by omega), Int.toNat_natCast]
set_option maxRecDepth 100000 in
set_option maxHeartbeats 1000000 in
theorem refPlain_any (s : ByteArray) (h : digB s.data.toList = true) (_hs : s.size ≤ 1000000) (w : World) (_R : EnvR w) :
    Calls Tryz.prog 93 #[.string s] w fun e w' => e = .returned (.string (itoaB (val s.data.toList : Nat))) ∧ Below w.heap.size w w' := by
  have HG2 := Lib.hid h
  clear h
  have hb := Below.refl w.heap.size w
  go_enter Tryz.func93, Tryz.ntmps93
  go_wp2
  go_loop [0] (fun v => ∃ t : ByteArray, v = .string t ∧ Tail s.data.toList t) (fun v => strLen v)
  case atStart => exact ⟨s, rfl, tail_start HG2.out⟩
  case round =>
    obtain ⟨t, rfl, ht⟩ := hrel
    have HT := Lib.hid ht
    have htp := ht.pos
    have htl := ht.le
    rw [← size_len] at htl
    clear ht
    have htp' : (0 : Int) < (t.size : Int) := by omega
    by_cases h1 : 1 < t.size ∧ ((t[0].toNat : Int) == 48) = true
    · obtain ⟨h1, h48⟩ := h1
      go_wp2
      go_round
      case rel => exact ⟨t.extract 1 t.size, rfl, tail_step HT.out h1 h48⟩
      case measure => simp [strLen]; omega
    · have HE := Lib.hid (tail_end HT.out (fun x => h1 ⟨x.1, beq_iff_eq.2 x.2⟩))
      have hx : t.size ≤ 1 ∨ (1 < t.size ∧ ((t[0].toNat : Int) == 48) = false) := by
        by_cases h2 : 1 < t.size
        · refine Or.inr ⟨h2, ?_⟩
          cases h3 : ((t[0].toNat : Int) == 48) with
          | true => exact absurd ⟨h2, h3⟩ h1
          | false => rfl
        · exact Or.inl (by omega)
      clear h1
      rcases hx with hx | ⟨hx, h48⟩
      all_goals
      go_wp2
      go_ret
      exact ⟨retS (plain_text HG2.out HE.out), hb⟩
end Go.Proofs.YtgllflfifbacnaaGreatDoor.Kl
