/- Contracts: the order of the program's pieces. -/
import Derived.Test.YtkekdcmonenciaaGreatDoorKlPcs
namespace Go.Proofs.YtkekdcmonenciaaGreatDoor.Kl
open Go Go.RowKit

theorem cI_lt {a b : Int} (h : a < b) : Lib.compareInt a b = -1 := by unfold Lib.compareInt; rw [if_pos h]
theorem cI_gt {a b : Int} (h : b < a) : Lib.compareInt a b = 1 := by unfold Lib.compareInt; rw [if_neg (by omega), if_pos h]
theorem cI_eq {a b : Int} (h : a = b) : Lib.compareInt a b = 0 := by unfold Lib.compareInt; rw [if_neg (by omega), if_neg (by omega)]
set_option maxRecDepth 100000 in
set_option maxHeartbeats 1000000 in
theorem pcmp_ne (p q : Option Addr) (n c m d : Nat) (w : World) (h : n ≠ m) (_hn : n ≤ 1000000) (_hm : m ≤ 1000000) :
    Calls Tryz.prog 70 #[.slice p n c, .slice q m d] w fun e w' => e = .returned (.int .i64 (Lib.compareInt n m)) ∧ Below w.heap.size w w' := by
  have c1 : ∀ w, Calls Tryz.prog 63 #[.int .i64 n, .int .i64 m] w fun e w' => e = .returned (.int .i64 (Lib.compareInt n m)) ∧ w' = w := fun w => Tryz.cmp_Compare_int n m w
  rcases Nat.lt_or_gt_of_ne h with h2 | h2
  · rw [cI_lt (by omega)] at c1 ⊢
    have C1 := Lib.hid c1
    clear c1
    go_enter Tryz.func70, Tryz.ntmps70
    go_wp2_with (go_at_call 63; refine (C1.out _).mono ?_; rintro e w2 ⟨rfl, rfl⟩)
    go_ret
    exact ⟨rfl, Below.refl _ _⟩
  · rw [cI_gt (by omega)] at c1 ⊢
    have C1 := Lib.hid c1
    clear c1
    go_enter Tryz.func70, Tryz.ntmps70
    go_wp2_with (go_at_call 63; refine (C1.out _).mono ?_; rintro e w2 ⟨rfl, rfl⟩)
    go_ret
    exact ⟨rfl, Below.refl _ _⟩
set_option maxRecDepth 100000 in
set_option maxHeartbeats 1000000 in
theorem pcmp_nil (p q : Option Addr) (c d : Nat) (w : World) :
    Calls Tryz.prog 70 #[.slice p 0 c, .slice q 0 d] w fun e w' => e = .returned (.int .i64 0) ∧ Below w.heap.size w w' := by
  have c1 : ∀ w, Calls Tryz.prog 63 #[.int .i64 0, .int .i64 0] w fun e w' => e = .returned (.int .i64 0) ∧ w' = w := fun w => Tryz.cmp_Compare_int 0 0 w
  have C1 := Lib.hid c1
  clear c1
  go_enter Tryz.func70, Tryz.ntmps70
  go_wp2_with (go_at_call 63; refine (C1.out _).mono ?_; rintro e w2 ⟨rfl, rfl⟩)
  refine wp_loop_rounds 1 ?_
  rw [rounds_succ]
  go_wp2
  go_ret
  exact ⟨rfl, Below.refl _ _⟩
set_option maxRecDepth 100000 in
set_option maxHeartbeats 2000000 in
theorem pcmp_some (b1 o1 c1 b2 o2 c2 n : Nat) (xs ys : List Int) (w : World) (hn1 : n = xs.length) (hn2 : n = ys.length) (hm : n ≤ 1000000) (hb1 : b1 < w.heap.size) (hb2 : b2 < w.heap.size) (hx : IsP 1000000000 xs) (hy : IsP 1000000000 ys)
    (hcx : ∀ i, i < xs.length → w.cell? ⟨b1, o1 + i, none⟩ = some (.int .i64 (xs[i]?.getD 0))) (hcy : ∀ i, i < ys.length → w.cell? ⟨b2, o2 + i, none⟩ = some (.int .i64 (ys[i]?.getD 0))) :
    Calls Tryz.prog 70 #[.slice (some ⟨b1, o1, none⟩) n c1, .slice (some ⟨b2, o2, none⟩) n c2] w fun e w' => e = .returned (.int .i64 (Lib.compareInt (pval 1000000000 xs) (pval 1000000000 ys))) ∧ Below w.heap.size w w' := by
  have k1 : ∀ w, Calls Tryz.prog 63 #[.int .i64 n, .int .i64 n] w fun e w' => e = .returned (.int .i64 0) ∧ w' = w := fun w => by
    have := Tryz.cmp_Compare_int n n w; rwa [cI_eq rfl] at this
  have K1 := Lib.hid k1
  have H1 := Lib.hid hn1
  have H2 := Lib.hid hn2
  have HX := Lib.hid hx
  have HY := Lib.hid hy
  have HCX := Lib.hid hcx
  have HCY := Lib.hid hcy
  clear hn1 hn2 hx hy hcx hcy k1
  go_enter Tryz.func70, Tryz.ntmps70
  go_wp2_with (go_at_call 63; refine (K1.out _).mono ?_; rintro e w2 ⟨rfl, rfl⟩)
  go_loopw [6] (fun v wr => ∃ k : Nat, k ≤ n ∧ v = .int .i64 ((k : Int) - 1) ∧ xs.drop k = ys.drop k ∧ Below w2.heap.size w2 wr) (fun v _ => (intOf v + 1).toNat)
  case atStart => exact ⟨n, Nat.le_refl _, rfl, by rw [List.drop_eq_nil_of_le (by have := H1.out; omega), List.drop_eq_nil_of_le (by have := H2.out; omega)], Below.refl _ _⟩
  case round =>
    obtain ⟨k, hk, rfl, hd, hb⟩ := hrel
    have HD := Lib.hid hd
    clear hd
    by_cases h0 : k = 0
    · subst h0
      go_wp2
      go_ret
      exact ⟨retI (by rw [show xs = ys from HD.out, cI_eq rfl]), hb⟩
    · obtain ⟨j, rfl⟩ : ∃ j, k = j + 1 := ⟨k - 1, by omega⟩
      have hcj := (hb.cell (p := ⟨b1, o1 + j, none⟩) hb1).trans (HCX.out j (by have := H1.out; omega))
      have hdj := (hb.cell (p := ⟨b2, o2 + j, none⟩) hb2).trans (HCY.out j (by have := H2.out; omega))
      obtain ⟨x, hx⟩ : ∃ x, xs[j]?.getD 0 = x := ⟨_, rfl⟩
      obtain ⟨y, hy⟩ : ∃ y, ys[j]?.getD 0 = y := ⟨_, rfl⟩
      rw [hx] at hcj
      rw [hy] at hdj
      have X := Lib.hid hx
      have Y := Lib.hid hy
      clear hx hy
      have hj2 : (j : Int) < (n : Int) := by omega
      by_cases hxy : x = y
      · subst hxy
        go_wp2
        go_quiet (fail)
        go_wp2
        go_roundw
        case rel => exact ⟨j, by omega, by go_num, by
          have e : ∀ (zs : List Int) (h : j < zs.length), zs.drop j = zs[j]?.getD 0 :: zs.drop (j + 1) := fun zs h => by
            rw [List.getElem?_eq_getElem h]; exact (List.getElem_cons_drop h).symm
          rw [e xs (by have := H1.out; omega), e ys (by have := H2.out; omega), X.out, Y.out, HD.out], Below.drews hb _⟩
        case measure => simp [intOf]
      · have hne : (x == y) = false := by simpa using hxy
        have hres : Lib.compareInt x y = Lib.compareInt (pval 1000000000 xs) (pval 1000000000 ys) := by
          by_cases hlt : x < y
          · rw [cI_lt hlt, cI_lt (pval_top (by decide) HX.out.1 HY.out.1 (by have := H1.out; omega) (by have := H2.out; omega) HD.out (by rw [X.out, Y.out]; exact hlt))]
          · have hgt : y < x := by omega
            rw [cI_gt hgt, cI_gt (pval_top (by decide : (0 : Int) < 1000000000) HY.out.1 HX.out.1 (k := j) (by have := H2.out; omega) (by have := H1.out; omega) HD.out.symm (by rw [X.out, Y.out]; exact hgt))]
        have HR := Lib.hid hres
        have k2 : ∀ w, Calls Tryz.prog 63 #[.int .i64 x, .int .i64 y] w fun e w' => e = .returned (.int .i64 (Lib.compareInt x y)) ∧ w' = w := fun w => Tryz.cmp_Compare_int x y w
        have K2 := Lib.hid k2
        clear hres k2
        go_wp2
        go_quiet (fail)
        go_wp2
        go_quiet (first | (go_at_call 63; exact (K2.out _).mono fun _ _ ⟨he, hw⟩ => ⟨he, _, hw⟩))
        go_wp2
        go_ret
        exact ⟨retI HR.out, Below.drews (Below.drews hb _) _⟩
theorem pcmp_any (p q : Option Addr) (n c m d X Y : Nat) (w : World) (h1 : n = (pcM X).length) (h2 : m = (pcM Y).length) (hnl : n ≤ 1000000) (hml : m ≤ 1000000) (hp : Has w p (pcM X)) (hq : Has w q (pcM Y)) :
    Calls Tryz.prog 70 #[.slice p n c, .slice q m d] w fun e w' => e = .returned (.int .i64 (Lib.compareInt X Y)) ∧ Below w.heap.size w w' := by
  obtain ⟨iX, vX⟩ := pcM_isP X
  obtain ⟨iY, vY⟩ := pcM_isP Y
  by_cases hnm : n = m
  · subst hnm
    by_cases hz : n = 0
    · subst hz
      have z1 := pcM_nil h1.symm
      have z2 := pcM_nil h2.symm
      subst z1 z2
      exact pcmp_nil p q c d w
    · rcases hp with e1 | ⟨b1, o1, rfl, hb1, hc1⟩
      · exact absurd (by rw [h1, e1]; rfl) hz
      rcases hq with e2 | ⟨b2, o2, rfl, hb2, hc2⟩
      · exact absurd (by rw [h2, e2]; rfl) hz
      · have := pcmp_some b1 o1 c b2 o2 d n _ _ w h1 h2 hnl hb1 hb2 iX iY hc1 hc2
        rwa [vX, vY] at this
  · have := pcmp_ne p q n c m d w hnm hnl hml
    have e : Lib.compareInt n m = Lib.compareInt X Y := by
      rcases Nat.lt_or_gt_of_ne hnm with h | h
      · have := pval_len (by decide : (0 : Int) < 1000000000) iX iY (by omega)
        rw [vX, vY] at this
        rw [cI_lt (by omega), cI_lt this]
      · have := pval_len (by decide : (0 : Int) < 1000000000) iY iX (by omega)
        rw [vX, vY] at this
        rw [cI_gt (by omega), cI_gt this]
    rwa [e] at this
end Go.Proofs.YtkekdcmonenciaaGreatDoor.Kl
