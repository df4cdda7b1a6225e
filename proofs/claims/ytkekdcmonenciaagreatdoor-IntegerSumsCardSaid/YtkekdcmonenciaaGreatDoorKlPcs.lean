/- Contracts: the program's small functions over pieces: trim, at, cut, compare. -/
import Derived.Test.YtkekdcmonenciaaGreatDoorKlBig
namespace Go.Proofs.YtkekdcmonenciaaGreatDoor.Kl
open Go Go.RowKit

set_option maxRecDepth 100000 in
set_option maxHeartbeats 1000000 in
theorem trim_some (b o n c : Nat) (xs : List Int) (w : World) (hn : n = xs.length) (hnc : n ≤ c) (hc : c ≤ 9223372036854775807) (hb : b < w.heap.size)
    (hcell : ∀ i, i < xs.length → w.cell? ⟨b, o + i, none⟩ = some (.int .i64 (xs[i]?.getD 0))) :
    Calls Tryz.prog 78 #[.slice (some ⟨b, o, none⟩) n c] w (RetP w (trimP xs)) := by
  have HN := Lib.hid hn
  have HC := Lib.hid hcell
  clear hn hcell
  go_enter Tryz.func78, Tryz.ntmps78
  go_wp2
  go_loop [3] (fun v => ∃ k : Nat, k ≤ n ∧ v = .int .i64 k ∧ trimP (xs.take k) = trimP xs) (fun v => (intOf v).toNat)
  case atStart => exact ⟨n, Nat.le_refl _, rfl, by rw [HN.out, List.take_length]⟩
  case round =>
    obtain ⟨k, hk, rfl, ht⟩ := hrel
    have HT := Lib.hid ht
    clear ht
    by_cases h0 : k = 0
    · subst h0
      go_wp2
      go_ret
      have e : trimP xs = [] := by rw [← HT.out]; rfl
      exact ⟨_, _, _, rfl, by rw [e]; rfl, Nat.zero_le _, hc, (fun h => by cases h), by rw [e]; exact Or.inl rfl, Below.refl _ _⟩
    · obtain ⟨j, rfl⟩ : ∃ j, k = j + 1 := ⟨k - 1, by omega⟩
      have hjn : j < xs.length := by have := HN.out; omega
      have hcj := HC.out j hjn
      have htl := take_last (xs := xs) (k := j) hjn
      obtain ⟨z, hz⟩ : ∃ z, xs[j]?.getD 0 = z := ⟨_, rfl⟩
      rw [hz] at hcj htl
      have HTL := Lib.hid htl
      clear hz htl
      by_cases hz0 : z = 0
      · subst hz0
        go_wp2
        go_round
        case rel => exact ⟨j, by omega, by go_num, by rw [← HT.out, HTL.out, trimP_snoc_zero]⟩
        case measure => simp [intOf]
      · have hzb : (z == 0) = false := by simpa using hz0
        go_wp2
        go_ret
        have e : trimP xs = xs.take (j + 1) := by rw [← HT.out, HTL.out, trimP_snoc _ hz0]
        exact ⟨_, _, _, rfl, by rw [e, List.length_take]; omega, by omega, hc, (fun h => by cases h), by rw [e]; exact Has.take (Or.inr ⟨b, o, rfl, hb, HC.out⟩) _, Below.refl _ _⟩
set_option maxRecDepth 100000 in
set_option maxHeartbeats 1000000 in
theorem trim_none (p : Option Addr) (c : Nat) (hc : c ≤ 9223372036854775807) (hpn : p = none → c = 0) (w : World) :
    Calls Tryz.prog 78 #[.slice p 0 c] w (RetP w []) := by
  have HPN := Lib.hid hpn
  clear hpn
  go_enter Tryz.func78, Tryz.ntmps78
  go_wp2
  refine wp_loop_rounds 1 ?_
  rw [rounds_succ]
  go_wp2
  go_ret
  exact ⟨_, _, _, rfl, rfl, Nat.zero_le _, hc, HPN.out, Or.inl rfl, Below.refl _ _⟩
theorem trim_any (p : Option Addr) (n c : Nat) (xs : List Int) (w : World) (hn : n = xs.length) (hnc : n ≤ c) (hc : c ≤ 9223372036854775807) (hpn : p = none → c = 0) (h : Has w p xs) :
    Calls Tryz.prog 78 #[.slice p n c] w (RetP w (trimP xs)) := by
  rcases h with rfl | ⟨b, o, rfl, hlt, hcell⟩
  · obtain rfl : n = 0 := hn
    exact trim_none p c hc hpn w
  · exact trim_some b o n c xs w hn hnc hc hlt hcell

set_option maxRecDepth 100000 in
set_option maxHeartbeats 1000000 in
theorem at_any (p : Option Addr) (n c : Nat) (xs : List Int) (k : Nat) (w : World) (hn : n = xs.length) (_hm : n ≤ 1000000) (_hk : k ≤ 1000000) (h : Has w p xs) :
    Calls Tryz.prog 101 #[.slice p n c, .int .i64 k] w fun e w' => e = .returned (.int .i64 (xs[k]?.getD 0)) ∧ w = w' := by
  by_cases hlt : k < n
  · rcases h with rfl | ⟨b, o, rfl, hb, hcell⟩
    · exfalso; rw [hn] at hlt; exact absurd hlt (Nat.not_lt_zero _)
    · have hc := hcell k (by omega)
      obtain ⟨z, hz⟩ : ∃ z, xs[k]?.getD 0 = z := ⟨_, rfl⟩
      rw [hz] at hc
      rw [hz]
      clear hz hcell hn
      have hlt' : (k : Int) < (n : Int) := by omega
      go_enter Tryz.func101, Tryz.ntmps101
      go_wp2
      go_ret
      exact ⟨rfl, rfl⟩
  · have e : xs[k]?.getD 0 = 0 := by rw [List.getElem?_eq_none (by omega)]; rfl
    rw [e]
    clear h e hn
    have hlt' : ¬ (k : Int) < (n : Int) := by omega
    go_enter Tryz.func101, Tryz.ntmps101
    go_wp2
    go_ret
    exact ⟨rfl, rfl⟩

theorem tdiv9_facts (s : Int) (h0 : -9000000000000000000 ≤ s) (h1 : s ≤ 9000000000000000000) :
    -9000000000 ≤ s.tdiv 1000000000 ∧ s.tdiv 1000000000 ≤ 9000000000 ∧ -1000000000 < s.tmod 1000000000 ∧ s.tmod 1000000000 < 1000000000 := by
  have h1 := Int.natAbs_tmod s 1000000000
  have h2 : (s.tdiv 1000000000).natAbs = s.natAbs / (1000000000 : Int).natAbs := Int.natAbs_tdiv s 1000000000
  have e : (1000000000 : Int).natAbs = 1000000000 := rfl
  rw [e] at h1 h2
  omega
set_option maxHeartbeats 1000000 in
/-- The program's cut: floor and remainder. -/
theorem cut9_any (s : Int) (w : World) (h0 : -9000000000000000000 ≤ s) (h1 : s ≤ 9000000000000000000) :
    Calls Tryz.prog 77 #[.int .i64 s] w fun e w' => e = .returned (.tuple #[.int .i64 (s / 1000000000), .int .i64 (s % 1000000000)]) ∧ w = w' := by
  obtain ⟨q0, q1, r0, r1⟩ := tdiv9_facts s h0 h1
  have q2 : wrap64 (s.tdiv 1000000000) = s.tdiv 1000000000 := IntWalk.wrap64_in _ ⟨by omega, by omega⟩
  have hy : (1000000000 : Int) ≠ 0 := by decide
  by_cases hr : s.tmod 1000000000 < 0
  · have e := euclid_minus (x := s) (y := 1000000000) (by decide) hr (by omega)
    have E1 := Lib.hid e.1
    have E2 := Lib.hid e.2
    clear e
    go_enter Tryz.func77, Tryz.ntmps77
    go_wp2
    go_ret2
    exact ⟨retII E1.out E2.out, rfl⟩
  · have e := euclid_zero (x := s) (y := 1000000000) hy (by omega) (fun _ => by omega) (fun h => by omega)
    have E1 := Lib.hid e.1
    have E2 := Lib.hid e.2
    clear e
    go_enter Tryz.func77, Tryz.ntmps77
    go_wp2
    go_ret2
    exact ⟨retII E1.out E2.out, rfl⟩

/-- The order of two numbers. -/
def cmpN (X Y : Nat) : Int := ((X : Int) - Y).sign
theorem cmpN_lt {X Y : Nat} (h : X < Y) : cmpN X Y = -1 := Int.sign_eq_neg_one_of_neg (by omega)
theorem cmpN_gt {X Y : Nat} (h : Y < X) : cmpN X Y = 1 := Int.sign_eq_one_of_pos (by omega)
theorem cmpN_eq {X Y : Nat} (h : X = Y) : cmpN X Y = 0 := by subst h; unfold cmpN; rw [Int.sub_self]; rfl
end Go.Proofs.YtkekdcmonenciaaGreatDoor.Kl
