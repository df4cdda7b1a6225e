/- Contracts: Check, and the reference's Canonical and Right. -/
import Derived.Test.YtlfpigdolcpmfaaDoorKlParse
namespace Go.Proofs.YtlfpigdolcpmfaaDoor.Kl
open Go Go.RowKit

theorem isDig_lt {c : UInt8} (h : (c.toNat : Int) < 48) : isDig c = false := by
  unfold isDig; simp only [Bool.and_eq_false_iff, decide_eq_false_iff_not]; omega
theorem isDig_gt {c : UInt8} (h : 57 < (c.toNat : Int)) : isDig c = false := by
  unfold isDig; simp only [Bool.and_eq_false_iff, decide_eq_false_iff_not]; omega
theorem isDig_in {c : UInt8} (h : 48 ≤ (c.toNat : Int)) (g : (c.toNat : Int) ≤ 57) : isDig c = true := by
  unfold isDig; simp only [Bool.and_eq_true, decide_eq_true_eq]; omega
theorem canon_nodig {l : List UInt8} (h : digB (mag l) = false) : canonB l = false := by unfold canonB; rw [h]; rfl
theorem all_full {s : ByteArray} (H : (s.data.toList.take s.size).all isDig = true) : s.data.toList.all isDig = true := by
  rwa [List.take_of_length_le (by rw [Array.length_toList]; exact Nat.le_refl _)] at H
theorem digB_of {s : ByteArray} (H : (s.data.toList.take s.size).all isDig = true) (h : 0 < s.size) : digB s.data.toList = true := by
  rw [digB_iff]; exact ⟨all_full H, ne_of_size s h⟩
theorem canon_of {l : List UInt8} (h : digB (mag l) = true) (h48 : (mag l).head? ≠ some 48) : canonB l = true := by
  unfold canonB; rw [h, beq_eq_false_iff_ne.2 h48]; rfl
theorem canon_zero {l : List UInt8} (h : digB (mag l) = true) (h48 : (mag l).head? = some 48) : canonB l = !(neg l || decide (1 < (mag l).length)) := by
  unfold canonB; rw [h, h48]; rfl
theorem canon_no {s m : ByteArray} (hd : m.data.toList = mag s.data.toList) (k : Nat) (h : k < m.size) (d : isDig m[k] = false) : canonB s.data.toList = false :=
  canon_nodig (by rw [← hd]; exact digB_false_at m k h d)
theorem head_eq {m : ByteArray} (h : 0 < m.size) (e : ((m[0].toNat : Int) == 48) = true) : m.data.toList.head? = some 48 := by
  rw [head_of m h]
  have e' : m[0].toNat = 48 := by have := beq_iff_eq.1 e; omega
  congr 1; exact UInt8.toNat.inj e'
theorem head_ne {m : ByteArray} (h : 0 < m.size) (e : ((m[0].toNat : Int) == 48) = false) : m.data.toList.head? ≠ some 48 := by
  rw [head_of m h]
  intro e2
  have e3 := beq_eq_false_iff_ne.1 e
  injection e2 with e2
  apply e3
  rw [e2]; rfl

set_option maxRecDepth 100000 in
set_option maxHeartbeats 1000000 in
theorem canonical_any (s : ByteArray) (w : World) (hs : s.size ≤ 1000000) :
    Calls Tryd.prog 21 #[.string s] w fun e w' => e = .returned (.bool (canonB s.data.toList)) ∧ Below w.heap.size w w' := by
  obtain ⟨b, hn⟩ : ∃ b, neg s.data.toList = b := ⟨_, rfl⟩
  have HN := Lib.hid hn
  obtain ⟨m, hm⟩ : ∃ m, magB s = m := ⟨_, rfl⟩
  have hd : m.data.toList = mag s.data.toList := by rw [← hm]; rfl
  have hms : m.size ≤ 1000000 := by rw [← hm]; have := magB_le s; omega
  have HD := Lib.hid hd
  have HM := Lib.hid hm
  clear hn hm hd
  have hb := Below.refl w.heap.size w
  have h1 : ∀ w, Calls Tryd.prog 20 #[.string s] w fun e w' => e = .returned (.tuple #[.bool b, .string m]) ∧ Below w.heap.size w w' := fun w => by
    have := split_any s w b HN.out; rwa [HM.out] at this
  have H1 := Lib.hid h1
  clear h1
  go_enter Tryd.func21, Tryd.ntmps21
  go_wp2_with (go_at_call 20; refine (chain hb (H1.out _)).mono ?_; clear hb; rintro e w1 ⟨rfl, hb⟩)
  obtain ⟨wo, rfl⟩ : ∃ wo, w1 = wo := ⟨_, rfl⟩
  go_loop [5] (fun i => ∃ k : Nat, k ≤ m.size ∧ i = .int .i64 k ∧ (m.data.toList.take k).all isDig = true) (fun i => m.size - (intOf i).toNat)
  case atStart => exact ⟨0, Nat.zero_le _, rfl, rfl⟩
  case round =>
    obtain ⟨k, hk, rfl, hall⟩ := hrel
    have HA := Lib.hid hall
    clear hall
    by_cases hlt : k < m.size
    · go_wp2
      · have hx : (m[k].toNat : Int) < 48 ∨ 57 < (m[k].toNat : Int) := by assumption
        go_ret
        exact ⟨retB (canon_no HD.out k hlt (hx.elim isDig_lt isDig_gt)).symm, hb⟩
      · have hx : 48 ≤ (m[k].toNat : Int) ∧ (m[k].toNat : Int) ≤ 57 := by assumption
        go_round
        case rel => exact ⟨k + 1, by omega, by go_num, all_step m k hlt HA.out (isDig_in hx.1 hx.2)⟩
        case measure => simp [intOf]; omega
      · have hx : (m[k].toNat : Int) < 48 := by assumption
        go_ret
        exact ⟨retB (canon_no HD.out k hlt (isDig_lt hx)).symm, hb⟩
    · obtain rfl : k = m.size := by omega
      by_cases hz : m.size = 0
      · have hr : canonB s.data.toList = false := canon_nodig (by rw [← HD.out, (size_zero_eq m hz)]; rfl)
        have HR := Lib.hid hr
        clear hr
        go_wp2
        go_ret
        exact ⟨retB HR.out.symm, hb⟩
      · have hpos : 0 < m.size := by omega
        have hdg : digB (mag s.data.toList) = true := by rw [← HD.out]; exact digB_of HA.out hpos
        have hml : (mag s.data.toList).length = m.size := by rw [← HD.out, size_len]
        by_cases h48 : ((m[0].toNat : Int) == 48) = true
        · have hr := canon_zero hdg (by rw [← HD.out]; exact head_eq hpos h48)
          rw [HN.out, hml] at hr
          have HR := Lib.hid hr
          clear hr hml hdg
          cases b with
          | true =>
            go_wp2
            go_ret
            exact ⟨retB HR.out.symm, hb⟩
          | false =>
            by_cases h1 : 1 < m.size
            · have h2 : decide ((1 : Int) < (m.size : Int)) = true := decide_eq_true (by omega)
              go_wp2
              go_ret
              exact ⟨retB (by rw [HR.out, decide_eq_true h1]; rfl), hb⟩
            · have h2 : decide ((1 : Int) < (m.size : Int)) = false := decide_eq_false (by omega)
              go_wp2
              go_ret
              exact ⟨retB (by rw [HR.out, decide_eq_false h1]; rfl), hb⟩
        · have h48' : ((m[0].toNat : Int) == 48) = false := by simpa using h48
          have hr := canon_of hdg (by rw [← HD.out]; exact head_ne hpos h48')
          have HR := Lib.hid hr
          clear hr hml hdg h48
          go_wp2
          go_ret
          exact ⟨retB HR.out.symm, hb⟩

theorem canonical_is (s : ByteArray) (w : World) (hs : s.size ≤ 1000000) (b : Bool) (h : canonB s.data.toList = b) :
    Calls Tryd.prog 21 #[.string s] w fun e w' => e = .returned (.bool b) ∧ Below w.heap.size w w' := by
  rw [← h]; exact canonical_any s w hs
theorem split_is (s : ByteArray) (w : World) :
    Calls Tryd.prog 20 #[.string s] w fun e w' => e = .returned (.tuple #[.bool (neg s.data.toList), .string (magB s)]) ∧ Below w.heap.size w w' := split_any s w _ rfl

set_option maxRecDepth 100000 in
set_option maxHeartbeats 1000000 in
theorem right_any (s : ByteArray) (w : World) (hs : s.size ≤ 1000000) (r : Bool) (hr : rightB s.data.toList = r) :
    Calls Tryd.prog 7 #[.string s] w fun e w' => e = .returned (.bool r) ∧ Below w.heap.size w w' := by
  have HR := Lib.hid hr
  clear hr
  have hb := Below.refl w.heap.size w
  have hm := magB_le s
  cases hc : canonB s.data.toList with
  | false =>
    have HC := Lib.hid hc
    clear hc
    go_enter Tryd.func7, Tryd.ntmps7
    go_wp2_with (first | (go_at_call 20; refine (chain hb (split_is _ _)).mono ?_; clear hb; rintro e w1 ⟨rfl, hb⟩) | (go_at_call 21; refine (chain hb (canonical_is _ _ hs _ HC.out)).mono ?_; clear hb; rintro e w1 ⟨rfl, hb⟩))
    go_ret
    exact ⟨retB (by rw [← HR.out]; unfold rightB; rw [HC.out]; rfl), hb⟩
  | true =>
    have HC := Lib.hid hc
    clear hc
    by_cases hl : (magB s).size ≤ 200
    · have h2 : decide (((magB s).size : Int) ≤ 200) = true := decide_eq_true (by omega)
      go_enter Tryd.func7, Tryd.ntmps7
      go_wp2_with (first | (go_at_call 20; refine (chain hb (split_is _ _)).mono ?_; clear hb; rintro e w1 ⟨rfl, hb⟩) | (go_at_call 21; refine (chain hb (canonical_is _ _ hs _ HC.out)).mono ?_; clear hb; rintro e w1 ⟨rfl, hb⟩))
      go_ret
      exact ⟨retB (by rw [← HR.out]; unfold rightB; rw [HC.out, ← magB_size, decide_eq_true hl]; rfl), hb⟩
    · have h2 : decide (((magB s).size : Int) ≤ 200) = false := decide_eq_false (by omega)
      go_enter Tryd.func7, Tryd.ntmps7
      go_wp2_with (first | (go_at_call 20; refine (chain hb (split_is _ _)).mono ?_; clear hb; rintro e w1 ⟨rfl, hb⟩) | (go_at_call 21; refine (chain hb (canonical_is _ _ hs _ HC.out)).mono ?_; clear hb; rintro e w1 ⟨rfl, hb⟩))
      go_ret
      exact ⟨retB (by rw [← HR.out]; unfold rightB; rw [HC.out, ← magB_size, decide_eq_false hl]; rfl), hb⟩

theorem right_long {s : ByteArray} (h : 200 < (magB s).size) : rightB s.data.toList = false := by
  unfold rightB; rw [← magB_size, decide_eq_false (by omega)]; simp
theorem right_nodig {s : ByteArray} (h : digB (magB s).data.toList = false) : rightB s.data.toList = false := by
  unfold rightB; rw [canon_nodig (by rw [← magB_data]; exact h)]; rfl
theorem right_plain {s : ByteArray} (h : digB (magB s).data.toList = true) (h0 : 0 < (magB s).size) (h48 : (((magB s)[0].toNat : Int) == 48) = false) (hl : ¬ 200 < (magB s).size) : rightB s.data.toList = true := by
  unfold rightB
  rw [canon_of (by rw [← magB_data]; exact h) (by rw [← magB_data]; exact head_ne h0 h48), ← magB_size, decide_eq_true (by omega)]; rfl
theorem right_zero {s : ByteArray} (h : s.data.toList = [48]) : rightB s.data.toList = true := by rw [h]; decide
theorem right_lead {s : ByteArray} (h : digB (magB s).data.toList = true) (h0 : 0 < (magB s).size) (h48 : (((magB s)[0].toNat : Int) == 48) = true) (hne : s.data.toList ≠ [48]) : rightB s.data.toList = false := by
  unfold rightB
  have hh := head_eq h0 h48
  rw [magB_data] at h hh
  rw [canon_zero h hh]
  cases hn : neg s.data.toList with
  | true => rfl
  | false =>
    rw [mag_pos hn] at hh ⊢
    by_cases h1 : 1 < s.data.toList.length
    · rw [decide_eq_true h1]; rfl
    · exfalso
      apply hne
      cases hs : s.data.toList with
      | nil => rw [hs] at hh; cases hh
      | cons c r =>
        rw [hs] at hh h1
        simp only [List.head?_cons, Option.some.injEq] at hh
        simp only [List.length_cons] at h1
        have : r = [] := List.length_eq_zero_iff.1 (by omega)
        rw [hh, this]

set_option maxRecDepth 100000 in
set_option maxHeartbeats 1000000 in
theorem check_any (s : ByteArray) (w : World) (_hs : s.size ≤ 1000000) (v : Int) (hv : (if rightB s.data.toList then (0 : Int) else 2) = v) :
    Calls Tryd.prog 10 #[.string s] w fun e w' => e = .returned (.int .i64 v) ∧ w = w' := by
  have hm := magB_le s
  have HV := Lib.hid hv
  clear hv
  by_cases hl : 200 < (magB s).size
  · have HR := Lib.hid (right_long hl)
    go_enter Tryd.func10, Tryd.ntmps10
    go_wp2_with (first | (go_at_call 24; refine (magnitude_any _ _).mono ?_; rintro e w1 ⟨rfl, rfl⟩))
    go_ret
    exact ⟨retI (by rw [← HV.out, HR.out]; rfl), rfl⟩
  · cases hd : digB (magB s).data.toList with
    | false =>
      have HR := Lib.hid (right_nodig hd)
      have HD := Lib.hid hd
      clear hd
      go_enter Tryd.func10, Tryd.ntmps10
      go_wp2_with (first | (go_at_call 24; refine (magnitude_any _ _).mono ?_; rintro e w1 ⟨rfl, rfl⟩) | (go_at_call 25; refine (isDigits_is _ _ (by omega) _ HD.out).mono ?_; rintro e w1 ⟨rfl, rfl⟩))
      go_ret
      exact ⟨retI (by rw [← HV.out, HR.out]; rfl), rfl⟩
    | true =>
      have h0 : 0 < (magB s).size := by
        have := (digB_iff.1 hd).2
        rw [size_len]; exact List.length_pos_iff.2 this
      have h0' : (0 : Int) < ((magB s).size : Int) := by omega
      by_cases h48 : (((magB s)[0].toNat : Int) == 48) = true
      · by_cases hz : s.data.toList = [48]
        · have HR := Lib.hid (right_zero hz)
          have hz' : (s.toList == [48]) = true := by rw [Lib.toList_data, hz]; rfl
          have HD := Lib.hid hd
          clear hd hz
          go_enter Tryd.func10, Tryd.ntmps10
          go_wp2_with (first | (go_at_call 24; refine (magnitude_any _ _).mono ?_; rintro e w1 ⟨rfl, rfl⟩) | (go_at_call 25; refine (isDigits_is _ _ (by omega) _ HD.out).mono ?_; rintro e w1 ⟨rfl, rfl⟩))
          go_ret
          exact ⟨retI (by rw [← HV.out, HR.out]; rfl), rfl⟩
        · have HR := Lib.hid (right_lead hd h0 h48 hz)
          have hz' : (s.toList == [48]) = false := by rw [Lib.toList_data]; exact beq_eq_false_iff_ne.2 hz
          have HD := Lib.hid hd
          clear hd hz
          go_enter Tryd.func10, Tryd.ntmps10
          go_wp2_with (first | (go_at_call 24; refine (magnitude_any _ _).mono ?_; rintro e w1 ⟨rfl, rfl⟩) | (go_at_call 25; refine (isDigits_is _ _ (by omega) _ HD.out).mono ?_; rintro e w1 ⟨rfl, rfl⟩))
          go_ret
          exact ⟨retI (by rw [← HV.out, HR.out]; rfl), rfl⟩
      · have h48' : (((magB s)[0].toNat : Int) == 48) = false := by simpa using h48
        have HR := Lib.hid (right_plain hd h0 h48' hl)
        have HD := Lib.hid hd
        clear hd h48
        go_enter Tryd.func10, Tryd.ntmps10
        go_wp2_with (first | (go_at_call 24; refine (magnitude_any _ _).mono ?_; rintro e w1 ⟨rfl, rfl⟩) | (go_at_call 25; refine (isDigits_is _ _ (by omega) _ HD.out).mono ?_; rintro e w1 ⟨rfl, rfl⟩))
        go_ret
        exact ⟨retI (by rw [← HV.out, HR.out]; rfl), rfl⟩
end Go.Proofs.YtlfpigdolcpmfaaDoor.Kl
