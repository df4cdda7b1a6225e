/- Contracts: the reference's Small. -/
import Derived.Test.YtkekdcmonenciaaGreatDoorKlCanon
namespace Go.Proofs.YtkekdcmonenciaaGreatDoor.Kl
open Go Go.RowKit

theorem val_take_succ (s : ByteArray) (k : Nat) (h : k < s.size) : val (s.data.toList.take (k + 1)) = val (s.data.toList.take k) * 10 + (s[k].toNat - 48) := by
  rw [take_snoc s k h]
  unfold val
  rw [valFrom_append, valFrom_cons, valFrom_nil]
theorem val_take_le (l : List UInt8) (k : Nat) : val (l.take k) ≤ val l := by
  have e : val l = valFrom (val (l.take k)) (l.drop k) := by
    unfold val; rw [← valFrom_append, List.take_append_drop]
  rw [e]; exact le_valFrom _ _
theorem val_full (s : ByteArray) : val (s.data.toList.take s.size) = val s.data.toList := by
  rw [List.take_of_length_le (by rw [Array.length_toList]; exact Nat.le_refl _)]

theorem tdiv_edge (D : Int) (h0 : 0 ≤ D) (h1 : D ≤ 9) : (-9223372036854775808 + D).tdiv 10 = -((9223372036854775808 - D) / 10) := by
  have e : -9223372036854775808 + D = -(9223372036854775808 - D) := by omega
  rw [e, Int.neg_tdiv, Int.tdiv_eq_ediv_of_nonneg (by omega)]

set_option maxRecDepth 100000 in
set_option maxHeartbeats 1000000 in
theorem refSmall_any (s : ByteArray) (w : World) (hs : s.size ≤ 1000000) (hcan : canonB s.data.toList = true) :
    Calls Tryz.prog 49 #[.string s] w fun e w' => e = .returned (.tuple #[.int .i64 (smI s.data.toList), .bool (smB s.data.toList)]) ∧ Below w.heap.size w w' := by
  obtain ⟨b, hn⟩ : ∃ b, neg s.data.toList = b := ⟨_, rfl⟩
  obtain ⟨m, hm⟩ : ∃ m, magB s = m := ⟨_, rfl⟩
  have hd : m.data.toList = mag s.data.toList := by rw [← hm]; rfl
  have hms : m.size ≤ 1000000 := by rw [← hm]; have := magB_le s; omega
  obtain ⟨p1, p2, p3⟩ := canon_parts hcan
  have hv := smallV_canon hcan
  rw [hn, ← hd] at hv
  rw [← hd] at p1 p2 p3
  have h1 : ∀ w, Calls Tryz.prog 42 #[.string s] w fun e w' => e = .returned (.tuple #[.bool b, .string m]) ∧ Below w.heap.size w w' := fun w => by
    have := split_any s w b hn; rwa [hm] at this
  have H1 := Lib.hid h1
  have HV := Lib.hid hv
  have P1 := Lib.hid p1
  have hb := Below.refl w.heap.size w
  by_cases hl : 19 < m.size
  · have hge : 10 ^ (m.data.toList.length - 1) ≤ val m.data.toList := val_ge_of_head p1 p2 (fun e => by have := (p3 e).2; rw [size_len] at hl; omega)
    have hp : 10 ^ 19 ≤ 10 ^ (m.data.toList.length - 1) := Nat.pow_le_pow_right (by decide) (by rw [← size_len]; omega)
    have hq : 9223372036854775808 < 10 ^ 19 := by decide
    have hnone : smallV s.data.toList = none := by
      have g0 : 9223372036854775808 < val m.data.toList := Nat.lt_of_lt_of_le hq (Nat.le_trans hp hge)
      have g1 : ¬ val m.data.toList ≤ 9223372036854775808 := Nat.not_le.2 g0
      have g2 : ¬ val m.data.toList < 9223372036854775808 := fun h => g1 (Nat.le_of_lt h)
      rw [hv, if_neg g1, if_neg g2]; split <;> rfl
    have HN := Lib.hid hnone
    clear hge hp hq hnone hv h1 p1 p2 p3 hcan hd hm hn
    go_enter Tryz.func49, Tryz.ntmps49
    go_wp2_with (go_at_call 42; refine (chain hb (H1.out _)).mono ?_; clear hb; rintro e w1 ⟨rfl, hb⟩)
    go_ret2
    exact ⟨retIB (by unfold smI; rw [HN.out]; rfl) (by unfold smB; rw [HN.out]; rfl), hb⟩
  · clear hv h1 p1 p2 p3 hcan hd hm hn
    go_enter Tryz.func49, Tryz.ntmps49
    go_wp2_with (go_at_call 42; refine (chain hb (H1.out _)).mono ?_; clear hb; rintro e w1 ⟨rfl, hb⟩)
    go_loop [6, 7] (fun x i => ∃ k : Nat, k ≤ m.size ∧ i = .int .i64 k ∧ x = .int .i64 (-(val (m.data.toList.take k) : Int)) ∧ val (m.data.toList.take k) ≤ 9223372036854775808) (fun _ i => m.size - (intOf i).toNat)
    case atStart => exact ⟨0, Nat.zero_le _, rfl, rfl, by simp [val, valFrom]⟩
    case round =>
      obtain ⟨k, hk, rfl, rfl, hle⟩ := hrel
      by_cases hlt : k < m.size
      · have hdig : isDig m[k] = true := by
          have := List.all_eq_true.1 P1.out m[k] (List.mem_of_getElem (i := k) (h := by simpa using hlt) rfl)
          exact this
        have hd1 := isDig_iff.1 hdig
        have HD := Lib.hid hdig
        clear hdig
        obtain ⟨V, hV⟩ : ∃ V, val (m.data.toList.take k) = V := ⟨_, rfl⟩
        rw [hV] at hle ⊢
        have HVV := Lib.hid hV
        clear hV
        have e10 := tdiv_edge ((m[k].toNat : Int) - 48) (by omega) (by omega)
        have hvs : val (m.data.toList.take (k + 1)) = V * 10 + (m[k].toNat - 48) := by rw [val_take_succ m k hlt, HVV.out]
        by_cases hov : 9223372036854775808 < V * 10 + (m[k].toNat - 48)
        · have hT : -(V : Int) < (-9223372036854775808 + ((m[k].toNat : Int) - 48)).tdiv 10 := by rw [e10]; omega
          have hbig : 9223372036854775808 < val m.data.toList := by
            have := val_take_le m.data.toList (k + 1); omega
          have hnone : smallV s.data.toList = none := by
            have g1 : ¬ val m.data.toList ≤ 9223372036854775808 := Nat.not_le.2 hbig
            have g2 : ¬ val m.data.toList < 9223372036854775808 := fun h => g1 (Nat.le_of_lt h)
            rw [HV.out, if_neg g1, if_neg g2]; split <;> rfl
          have HN := Lib.hid hnone
          clear e10 hvs hov hbig hnone
          go_wp2
          go_ret2
          exact ⟨retIB (by unfold smI; rw [HN.out]; rfl) (by unfold smB; rw [HN.out]; rfl), hb⟩
        · have hT : (-9223372036854775808 + ((m[k].toNat : Int) - 48)).tdiv 10 ≤ -(V : Int) := by rw [e10]; omega
          have hI : 10 * (V : Int) + ((m[k].toNat : Int) - 48) ≤ 9223372036854775808 := by omega
          have HS := Lib.hid hvs
          clear e10 hvs hov
          go_wp2
          go_round
          case rel => exact ⟨k + 1, by omega, by go_num, by rw [HS.out]; go_num, by rw [HS.out]; omega⟩
          case measure => simp [intOf]; omega
      · obtain rfl : k = m.size := by omega
        obtain ⟨V, hV⟩ : ∃ V, val (m.data.toList.take m.size) = V := ⟨_, rfl⟩
        have hV2 := hV
        rw [val_full] at hV2
        have hv := HV.out
        rw [hV2] at hv
        rw [hV] at hle ⊢
        clear hV hV2
        cases b with
        | true =>
          rw [if_pos rfl, if_pos hle] at hv
          have HN := Lib.hid hv
          clear hv
          go_wp2
          go_ret2
          exact ⟨retIB (by unfold smI; rw [HN.out]; rfl) (by unfold smB; rw [HN.out]; rfl), hb⟩
        | false =>
          rw [if_neg (by decide)] at hv
          by_cases hq : V < 9223372036854775808
          · rw [if_pos hq] at hv
            have hne : (-(V : Int) == -9223372036854775808) = false := by rw [beq_eq_false_iff_ne]; omega
            have HN := Lib.hid hv
            clear hv
            go_wp2
            go_ret2
            exact ⟨retIB (by unfold smI; rw [HN.out]; simp) (by unfold smB; rw [HN.out]; rfl), hb⟩
          · rw [if_neg hq] at hv
            obtain rfl : V = 9223372036854775808 := by omega
            have HN := Lib.hid hv
            clear hv
            go_wp2
            go_ret2
            exact ⟨retIB (by unfold smI; rw [HN.out]; rfl) (by unfold smB; rw [HN.out]; rfl), hb⟩
end Go.Proofs.YtkekdcmonenciaaGreatDoor.Kl
