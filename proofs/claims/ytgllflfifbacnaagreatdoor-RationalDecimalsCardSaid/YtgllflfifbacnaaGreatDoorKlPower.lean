/- Contracts: the reference's times. -/
import Derived.Test.YtgllflfifbacnaaGreatDoorKlPcsM
import Derived.Test.YtgllflfifbacnaaGreatDoorKlJoined
import Derived.Test.YtgllflfifbacnaaGreatDoorKlAdd
import Derived.StillTailTactics
import Derived.Test.YtgllflfifbacnaaGreatDoorKlMulI
namespace Go.Proofs.YtgllflfifbacnaaGreatDoor.Kl
open Go Go.RowKit

theorem pval_set (B v : Int) : ∀ (xs : List Int) (j : Nat), j < xs.length → pval B (xs.set j (xs[j]?.getD 0 + v)) = pval B xs + B ^ j * v
  | [], j, h => by simp at h
  | x :: r, 0, _ => by
    show x + v + B * pval B r = x + B * pval B r + B ^ 0 * v
    simp; omega
  | x :: r, j + 1, h => by
    have ih := pval_set B v r j (by simpa using h)
    show x + B * pval B (r.set j (r[j]?.getD 0 + v)) = x + B * pval B r + B ^ (j + 1) * v
    rw [ih, Int.mul_add, Int.pow_succ, Int.mul_comm (B ^ j) B, Int.mul_assoc]; omega
theorem pval_take_succ (B : Int) (xs : List Int) (k : Nat) (h : k < xs.length) : pval B (xs.take (k + 1)) = pval B (xs.take k) + B ^ k * xs[k]?.getD 0 := by
  rw [take_last h, pval_append, List.length_take, Nat.min_eq_left (by omega)]
  show _ + B ^ k * (xs[k]?.getD 0 + B * 0) = _
  simp
theorem pval_zeros (B : Int) : ∀ n, pval B (List.replicate n 0) = 0
  | 0 => rfl
  | n + 1 => by rw [List.replicate_succ]; show 0 + B * pval B (List.replicate n 0) = 0; rw [pval_zeros B n]; simp
/-- Where the reference's times stands: i rows, and k columns of the next one. -/
structure RTAt (xs ys : List Int) (L i k : Nat) (out : List Int) (W0 wr : World) (B : Nat) : Prop where
  len : out.length = L
  val : pval 10000 out = pval 10000 (xs.take i) * pval 10000 ys + 10000 ^ i * (xs[i]?.getD 0 * pval 10000 (ys.take k))
  lo : ∀ j : Nat, 0 ≤ out[j]?.getD 0
  hi : ∀ j : Nat, out[j]?.getD 0 ≤ (if j < i + k then (i : Int) + 1 else i) * 100000000
  own : wr.ownsRow B 3 1 (.slice (some ⟨B, 0, none⟩) L L) L (iv out)
  bel : Below B W0 wr
theorem rt_next {xs ys : List Int} {L i k : Nat} {out : List Int} {W0 wr : World} {B : Nat} (h : RTAt xs ys L i k out W0 wr B) (hi : i < xs.length) (hk : k < ys.length) (hL : L = xs.length + ys.length)
    (hxs : ∀ j : Nat, 0 ≤ xs[j]?.getD 0 ∧ xs[j]?.getD 0 < 10000) (hys : ∀ j : Nat, 0 ≤ ys[j]?.getD 0 ∧ ys[j]?.getD 0 < 10000) {wr' : World}
    (hown : wr'.ownsRow B 3 1 (.slice (some ⟨B, 0, none⟩) L L) L (iv (out.set (i + k) (out[i + k]?.getD 0 + xs[i]?.getD 0 * ys[k]?.getD 0)))) (hbel : Below B W0 wr') :
    RTAt xs ys L i (k + 1) (out.set (i + k) (out[i + k]?.getD 0 + xs[i]?.getD 0 * ys[k]?.getD 0)) W0 wr' B := by
  have hp0 : 0 ≤ xs[i]?.getD 0 * ys[k]?.getD 0 := Int.mul_nonneg (hxs i).1 (hys k).1
  have hp1 : xs[i]?.getD 0 * ys[k]?.getD 0 ≤ 100000000 := by
    have := Int.mul_le_mul (show xs[i]?.getD 0 ≤ 10000 by have := hxs i; omega) (show ys[k]?.getD 0 ≤ 10000 by have := hys k; omega) (hys k).1 (by decide); omega
  refine ⟨by rw [List.length_set]; exact h.len, ?_, fun j => ?_, fun j => ?_, hown, hbel⟩
  · rw [pval_set _ _ _ _ (by rw [h.len]; omega), h.val, pval_take_succ _ _ _ hk, Int.pow_add, Int.mul_add, Int.mul_add, Int.add_assoc]
    congr 2
    rw [Int.mul_assoc, Int.mul_left_comm (xs[i]?.getD 0)]
  · by_cases hj : j = i + k
    · subst hj
      rw [List.getElem?_set_self (by rw [h.len]; omega)]
      have := h.lo (i + k)
      show 0 ≤ out[i + k]?.getD 0 + _; omega
    · rw [List.getElem?_set_ne (by omega)]; exact h.lo j
  · by_cases hj : j = i + k
    · subst hj
      rw [List.getElem?_set_self (by rw [h.len]; omega), if_pos (by omega)]
      have := h.hi (i + k)
      rw [if_neg (by omega)] at this
      show out[i + k]?.getD 0 + _ ≤ _; omega
    · rw [List.getElem?_set_ne (by omega)]
      have := h.hi j
      by_cases h2 : j < i + k
      · rw [if_pos h2] at this; rw [if_pos (by omega)]; exact this
      · rw [if_neg h2] at this; rw [if_neg (by omega)]; exact this
theorem rt_row {xs ys : List Int} {L i : Nat} {out : List Int} {W0 wr : World} {B : Nat} (h : RTAt xs ys L i ys.length out W0 wr B) (hi : i < xs.length) : RTAt xs ys L (i + 1) 0 out W0 wr B := by
  refine ⟨h.len, ?_, h.lo, fun j => ?_, h.own, h.bel⟩
  · rw [h.val, List.take_length, pval_take_succ _ _ _ hi, List.take_zero]
    show _ = _ + 10000 ^ (i + 1) * (_ * 0)
    rw [Int.add_mul, Int.mul_zero, Int.mul_zero, Int.add_zero, Int.mul_assoc]
  · have := h.hi j
    split at this <;> split <;> omega

theorem rt_drew {xs ys : List Int} {L i k : Nat} {out : List Int} {W0 wr : World} {B : Nat} (h : RTAt xs ys L i k out W0 wr B) : RTAt xs ys L i k out W0 wr.drew B := ⟨h.len, h.val, h.lo, h.hi, h.own.drew, h.bel.drew⟩

set_option maxRecDepth 100000 in
set_option maxHeartbeats 4000000 in
theorem refTimes_any (p q : Option Addr) (c d n m : Nat) (xs ys : List Int) (w : World) (hn : n = xs.length) (hm : m = ys.length) (hnl : n ≤ 9000) (hml : m ≤ 9000) (hp : Has w p xs) (hq : Has w q ys)
    (hxs : ∀ j : Nat, 0 ≤ xs[j]?.getD 0 ∧ xs[j]?.getD 0 < 10000) (hys : ∀ j : Nat, 0 ≤ ys[j]?.getD 0 ∧ ys[j]?.getD 0 < 10000)
    (V : Nat) (hV : pval 10000 xs * pval 10000 ys = V) :
    Calls Tryz.prog 150 #[.slice p n c, .slice q m d] w (RetP w (pcN V)) := by
  obtain ⟨L, hL⟩ : ∃ L : Nat, n + m = L := ⟨_, rfl⟩
  have hLi : (n : Int) + (m : Int) = (L : Int) := by omega
  have hmk : (Instr.makeSlice 119 (.int .i64 (L : Int)) (.int .i64 (L : Int))).run Tryz.prog w = .ok (.slice (some ⟨w.heap.size, 0, none⟩) L L) (w.alloc (.cells (madeCells #[Value.int .i64 0] L) 3)) :=
    make_ints _ Tryz.underlying119 L L (Nat.le_refl _) (by omega) w
  have hz := own_zeros w L (by omega)
  have hbel := (Below.refl w.heap.size w).alloc (Nat.le_refl _) (.cells (madeCells #[Value.int .i64 0] L) 3)
  have h0 : RTAt xs ys L 0 0 (List.replicate L 0) w (w.alloc (.cells (madeCells #[Value.int .i64 0] L) 3)) w.heap.size := by
    have hr : ∀ j : Nat, (List.replicate L (0 : Int))[j]?.getD 0 = 0 := fun j => by
      rcases hj : (List.replicate L (0 : Int))[j]? with _ | z
      · rfl
      · have := List.mem_of_getElem? hj; rw [List.mem_replicate] at this; exact this.2
    refine ⟨by simp, ?_, fun j => by rw [hr j]; exact Int.le_refl _, fun j => by rw [hr j]; split <;> omega, hz, hbel⟩
    rw [pval_zeros, List.take_zero, List.take_zero]; simp [pval]
  have HN := Lib.hid hn
  have HM := Lib.hid hm
  have HP := Lib.hid hp
  have HQ := Lib.hid hq
  have HXS := Lib.hid hxs
  have HYS := Lib.hid hys
  have HV := Lib.hid hV
  have HL := Lib.hid hL
  have H0 := Lib.hid h0
  have hLb : L ≤ 18000 := by omega
  clear hn hm hp hq hxs hys hV hL hz hbel h0
  go_enter Tryz.func150, Tryz.ntmps150
  go_wp2
  go_loopw [6] (fun iv2 wr => ∃ (i : Nat) (out : List Int), iv2 = .int .i64 i ∧ i ≤ n ∧ RTAt xs ys L i 0 out w wr w.heap.size) (fun iv2 _ => n - (intOf iv2).toNat)
  case atStart => exact ⟨0, _, rfl, Nat.zero_le _, H0.out⟩
  case round =>
    obtain ⟨i, out0, rfl, hin, hR⟩ := hrel
    have HR0 := Lib.hid hR
    clear hR H0 hmk hLi
    by_cases hi : i < n
    · have hi' : (i : Int) < (n : Int) := by omega
      go_wp2
      go_loopw [7] (fun kv wr => ∃ (k : Nat) (out : List Int), kv = .int .i64 k ∧ k ≤ m ∧ RTAt xs ys L i k out w wr w.heap.size) (fun kv _ => m - (intOf kv).toNat)
      case atStart => exact ⟨0, out0, rfl, Nat.zero_le _, HR0.out⟩
      case round =>
        obtain ⟨k, out, rfl, hkm, hR⟩ := hrel
        have HR := Lib.hid hR
        clear hR HR0
        by_cases hk : k < m
        · have hk' : (k : Int) < (m : Int) := by omega
          rcases HP.out with hpe | ⟨b1, o1, rfl, hb1, hcx⟩
          · exfalso; have := HN.out; rw [hpe] at this; rw [this] at hi; exact absurd hi (Nat.not_lt_zero _)
          rcases HQ.out with hqe | ⟨b2, o2, rfl, hb2, hcy⟩
          · exfalso; have := HM.out; rw [hqe] at this; rw [this] at hk; exact absurd hk (Nat.not_lt_zero _)
          have c1 := (HR.out.bel.cell (p := ⟨b1, o1 + i, none⟩) hb1).trans (hcx i (by have := HN.out; omega))
          have c2 := (HR.out.bel.cell (p := ⟨b2, o2 + k, none⟩) hb2).trans (hcy k (by have := HM.out; omega))
          obtain ⟨j, hj⟩ : ∃ j : Nat, i + k = j := ⟨_, rfl⟩
          have hjL : j < L := by have := HL.out; omega
          have hji : (i : Int) + (k : Int) = (j : Int) := by omega
          have hjL' : (j : Int) < (L : Int) := by omega
          have hlen := HR.out.len
          have hown := HR.out.own
          have ci : wr.cell? ⟨w.heap.size, j, none⟩ = some (.int .i64 (out[j]?.getD 0)) := by
            rw [hown.cellAt j (by omega), iv, List.getElem?_map, List.getElem?_eq_getElem (by omega)]; rfl
          have fi : wr.frozen? ⟨w.heap.size, j, none⟩ = false := hown.frozenAt j
          have hz0 := HR.out.lo j
          have hz1 := HR.out.hi j
          rw [if_neg (by omega)] at hz1
          have hx := HXS.out i
          have hy := HYS.out k
          have hso := (hown.stored j (.int .i64 (out[j]?.getD 0 + xs[i]?.getD 0 * ys[k]?.getD 0))).1
          rw [iv_set] at hso
          have hbl := HR.out.bel.setCell (p := ⟨w.heap.size, j, none⟩) (Nat.le_refl _) (.int .i64 (out[j]?.getD 0 + xs[i]?.getD 0 * ys[k]?.getD 0))
          have hnx := rt_next HR.out (by have := HN.out; omega) (by have := HM.out; omega) (by have := HN.out; have := HM.out; have := HL.out; omega) HXS.out HYS.out (by rw [hj]; exact hso) hbl
          rw [hj] at hnx
          obtain ⟨x, hxd⟩ : ∃ x, xs[i]?.getD 0 = x := ⟨_, rfl⟩
          obtain ⟨y, hyd⟩ : ∃ y, ys[k]?.getD 0 = y := ⟨_, rfl⟩
          obtain ⟨z, hzd⟩ : ∃ z, out[j]?.getD 0 = z := ⟨_, rfl⟩
          rw [hxd, hyd, hzd] at hnx
          rw [hxd] at c1 hx
          rw [hyd] at c2 hy
          rw [hzd] at ci hz0 hz1
          have hp0 : 0 ≤ x * y := Int.mul_nonneg hx.1 hy.1
          have hp1 : x * y ≤ 100000000 := by
            have := Int.mul_le_mul (show x ≤ 10000 by omega) (show y ≤ 10000 by omega) hy.1 (by decide); omega
          have hz2 : z ≤ 1000000000000 := by omega
          have hkm1 : k + 1 ≤ m := by omega
          have hms : m - (k + 1) < m - k := by omega
          have hj0 : (0 : Int) ≤ (j : Int) := by omega
          have hi0 : (0 : Int) ≤ (i : Int) := by omega
          have hk0 : (0 : Int) ≤ (k : Int) := by omega
          have w3 : IntKind.i64.wrap ((i : Int) + (k : Int)) = (j : Int) := by rw [hji]; exact IntWalk.i64_in _ (by omega)
          have w4 : IntKind.i64.wrap (j : Int) = (j : Int) := IntWalk.i64_in _ (by omega)
          obtain ⟨pr, hpr⟩ : ∃ pr, x * y = pr := ⟨_, rfl⟩
          have w1 : IntKind.i64.wrap (x * y) = pr := by rw [hpr]; exact IntWalk.i64_in _ (by omega)
          have w2 : IntKind.i64.wrap (z + pr) = z + pr := IntWalk.i64_in _ (by omega)
          rw [hpr] at hnx
          have HNX := Lib.hid hnx
          clear hnx hso hbl hown hlen hxd hyd hzd hpr hz0 hz1 hz2 hp0 hp1 hcx hcy hj hjL
          go_wp2
          go_still_tail 16, (by kernel_rfl)
          change wpList _ _ _ _ _ wr.drew
          go_wp2
          exact ⟨⟨k + 1, _, by go_num, hkm1, rt_drew HNX.out⟩, hms⟩
        · obtain rfl : k = m := by omega
          have hrow := rt_row (by have h1 := HR.out; rw [HM.out] at h1; exact h1) (by have := HN.out; omega : i < xs.length)
          have HROW := Lib.hid hrow
          have hin1 : i + 1 ≤ n := by omega
          have hms : n - (i + 1) < n - i := by omega
          clear hrow
          go_wp2
          exact ⟨⟨i + 1, out, by go_num, hin1, HROW.out⟩, hms⟩
    · obtain rfl : i = n := by omega
      have hval := HR0.out.val
      rw [List.take_zero, HN.out, List.take_length, HV.out] at hval
      have hval' : pval 10000 out0 = (V : Int) := by rw [hval]; simp [pval]
      have hown := HR0.out.own
      obtain ⟨p1, c1, hv1, hnc, hc1, hpn, hh⟩ := has_of_row hown HR0.out.len
      have hpp : some (⟨w.heap.size, 0, none⟩ : Addr) = p1 ∧ L = c1 := by injection hv1 with h1 _ h3; exact ⟨h1, h3⟩
      obtain ⟨rfl, rfl⟩ := hpp
      have hbd : ∀ j : Nat, -1000000000000 ≤ out0[j]?.getD 0 ∧ out0[j]?.getD 0 ≤ 1000000000000 := fun j => by
        have h1 := HR0.out.lo j
        have h2 := HR0.out.hi j
        split at h2 <;> omega
      have hca := carry_any (some ⟨w.heap.size, 0, none⟩) L L out0 _ wr HR0.out.len.symm (by omega) hh hbd hval' (by omega)
      rw [show ((V : Nat) : Int).toNat = V by omega] at hca
      have HH := Lib.hid hca
      have HB := Lib.hid HR0.out.bel
      clear hown hh hv1 hval hval' hbd hca
      go_wp2_with (go_at_call 181; refine HH.out.mono ?_; rintro e w1 ⟨p2, n2, c2, rfl, hr⟩; have HR := Lib.hid hr; clear hr)
      go_ret
      exact RetP.behind HB.out (⟨p2, n2, c2, rfl, HR.out⟩ : RetP wr _ (.returned (.slice p2 n2 c2)) _)
theorem refTimes_sl {p q : Option Addr} {n c m d X Y : Nat} {w : World} (h1 : Sl w p n c X) (h2 : Sl w q m d Y) (hX : (pcN X).length ≤ 9000) (hY : (pcN Y).length ≤ 9000) :
    Calls Tryz.prog 150 #[.slice p n c, .slice q m d] w (RetP w (pcN (X * Y))) := by
  have hr : ∀ N : Nat, ∀ j : Nat, 0 ≤ (pcN N)[j]?.getD 0 ∧ (pcN N)[j]?.getD 0 < 10000 := fun N j => by
    rcases h : (pcN N)[j]? with _ | z
    · exact ⟨by decide, by decide⟩
    · exact (pcN_isP N).1.1 z (List.mem_of_getElem? h)
  exact refTimes_any p q c d n m _ _ w h1.len h2.len (by rw [h1.len]; exact hX) (by rw [h2.len]; exact hY) h1.has h2.has (hr X) (hr Y) (X * Y) (by rw [(pcN_isP X).2, (pcN_isP Y).2, Int.natCast_mul])
end Go.Proofs.YtgllflfifbacnaaGreatDoor.Kl
/- Contracts: the reference's Mul on the texts of integers. -/
namespace Go.Proofs.YtgllflfifbacnaaGreatDoor.Kl
open Go Go.RowKit

theorem neg_mul (x y : Int) (h : 0 < x.natAbs * y.natAbs) : (!(decide (x < 0) == decide (y < 0))) = decide (x * y < 0) := by
  have hx : x ≠ 0 := fun e => by rw [e] at h; simp at h
  have hy : y ≠ 0 := fun e => by rw [e] at h; simp at h
  rcases Int.lt_or_gt_of_ne hx with h1 | h1 <;> rcases Int.lt_or_gt_of_ne hy with h2 | h2
  · have := Int.mul_pos_of_neg_of_neg h1 h2
    rw [decide_eq_true h1, decide_eq_true h2, decide_eq_false (by omega)]; rfl
  · have := Int.mul_neg_of_neg_of_pos h1 h2
    rw [decide_eq_true h1, decide_eq_false (by omega), decide_eq_true (by omega)]; rfl
  · have := Int.mul_neg_of_pos_of_neg h1 h2
    rw [decide_eq_false (by omega), decide_eq_true h2, decide_eq_true (by omega)]; rfl
  · have := Int.mul_pos h1 h2
    rw [decide_eq_false (by omega), decide_eq_false (by omega), decide_eq_false (by omega)]; rfl

set_option maxRecDepth 100000 in
set_option maxHeartbeats 2000000 in
theorem refMul_short (x y : Int) (w : World) (E : Env w) (h : dlen x + dlen y ≤ 18) :
    Calls Tryz.prog 99 #[.string (itoaB x), .string (itoaB y)] w fun e w' => e = .returned (.string (itoaB (x * y))) ∧ Below w.heap.size w w' := by
  have px : 0 < dlen x := List.length_pos_iff.2 (decDigits_ne x.natAbs)
  have hp := dlen_mul x y (dlen x) (dlen y) (by omega) (Nat.le_refl _) (Nat.le_refl _)
  have h2 : (x * y).natAbs < 10 ^ 18 := Nat.lt_of_lt_of_le (dig_lt _) (Nat.pow_le_pow_right (by decide) (by unfold dlen at hp h; omega))
  have h3 : (x * y).natAbs < 1000000000000000000 := h2
  have h4' : x.natAbs < 10 ^ 18 := Nat.lt_of_lt_of_le (dig_lt _) (Nat.pow_le_pow_right (by decide) (by unfold dlen at h; omega))
  have h4 : x.natAbs < 1000000000000000000 := h4'
  have h5' : y.natAbs < 10 ^ 18 := Nat.lt_of_lt_of_le (dig_lt _) (Nat.pow_le_pow_right (by decide) (by unfold dlen at h; omega))
  have h5 : y.natAbs < 1000000000000000000 := h5'
  have s1 : ∀ w, Calls Tryz.prog 71 #[.string (itoaB x)] w fun e w' => e = .returned (.tuple #[.bool (decide (x < 0)), .string (magB (itoaB x))]) ∧ Below w.heap.size w w' := fun w => split_any _ w _ (neg_itoaB x)
  have s2 : ∀ w, Calls Tryz.prog 71 #[.string (itoaB y)] w fun e w' => e = .returned (.tuple #[.bool (decide (y < 0)), .string (magB (itoaB y))]) ∧ Below w.heap.size w w' := fun w => split_any _ w _ (neg_itoaB y)
  have c1 : ∀ w, Calls Tryz.prog 149 #[.string (itoaB x)] w fun e w' => e = .returned (.tuple #[.int .i64 x, .bool true]) ∧ Below w.heap.size w w' := fun w => by
    have := refSmall_any (itoaB x) w (by have := itoaB_size x (by omega); omega) (canon_itoa x)
    rwa [show smI (itoaB x).data.toList = x by unfold smI; rw [itoaB_data, smallV_itoa x (by omega) (by omega)]; rfl, show smB (itoaB x).data.toList = true by unfold smB; rw [itoaB_data, smallV_itoa x (by omega) (by omega)]; rfl] at this
  have c2 : ∀ w, Calls Tryz.prog 149 #[.string (itoaB y)] w fun e w' => e = .returned (.tuple #[.int .i64 y, .bool true]) ∧ Below w.heap.size w w' := fun w => by
    have := refSmall_any (itoaB y) w (by have := itoaB_size y (by omega); omega) (canon_itoa y)
    rwa [show smI (itoaB y).data.toList = y by unfold smI; rw [itoaB_data, smallV_itoa y (by omega) (by omega)]; rfl, show smB (itoaB y).data.toList = true by unfold smB; rw [itoaB_data, smallV_itoa y (by omega) (by omega)]; rfl] at this
  have o1 : ∀ w, Env w → Calls Tryz.prog 20 #[.int .i64 (x * y)] w fun e w' => e = .returned (.string (itoaB (x * y))) ∧ Below w.heap.size w w' := fun w E => refOf_any (x * y) (by omega) (by omega) w E
  have hsz : ((magB (itoaB x)).size : Int) + (magB (itoaB y)).size ≤ 18 := by rw [magB_dlen, magB_dlen]; omega
  have hz1 : (magB (itoaB x)).size ≤ 18 := by omega
  have hz2 : (magB (itoaB y)).size ≤ 18 := by omega
  obtain ⟨mx, hmx⟩ : ∃ v, decide (x < 0) = v := ⟨_, rfl⟩
  obtain ⟨my, hmy⟩ : ∃ v, decide (y < 0) = v := ⟨_, rfl⟩
  obtain ⟨sx, hsx⟩ : ∃ v, magB (itoaB x) = v := ⟨_, rfl⟩
  obtain ⟨sy, hsy⟩ : ∃ v, magB (itoaB y) = v := ⟨_, rfl⟩
  obtain ⟨r, hr⟩ : ∃ v, itoaB (x * y) = v := ⟨_, rfl⟩
  obtain ⟨a, ha⟩ : ∃ v, itoaB x = v := ⟨_, rfl⟩
  obtain ⟨b, hb0⟩ : ∃ v, itoaB y = v := ⟨_, rfl⟩
  rw [hsx] at s1 hsz hz1
  rw [hsy] at s2 hsz hz2
  rw [hmx] at s1
  rw [hmy] at s2
  rw [hr] at o1 ⊢
  rw [ha] at s1 c1 ⊢
  rw [hb0] at s2 c2 ⊢
  have S1 := Lib.hid s1
  have S2 := Lib.hid s2
  have C1 := Lib.hid c1
  have C2 := Lib.hid c2
  have O1 := Lib.hid o1
  have ew : IntKind.i64.wrap (x * y) = x * y := IntWalk.i64_in _ (by omega)
  clear s1 s2 c1 c2 o1 hmx hmy hsx hsy hr ha hb0 h hp h2 h3 h4 h5 h4' h5' px
  have hb := Below.refl w.heap.size w
  go_enter Tryz.func99, Tryz.ntmps99
  go_wp2_with (first | (go_at_call 71; first | (with_reducible refine (chain hb (S1.out _)).mono ?_; clear hb; rintro e w1 ⟨rfl, hb⟩) | (with_reducible refine (chain hb (S2.out _)).mono ?_; clear hb; rintro e w1 ⟨rfl, hb⟩)) | (go_at_call 149; first | (with_reducible refine (chain hb (C1.out _)).mono ?_; clear hb; rintro e w1 ⟨rfl, hb⟩) | (with_reducible refine (chain hb (C2.out _)).mono ?_; clear hb; rintro e w1 ⟨rfl, hb⟩)) | (go_at_call 20; (try rw [ew]); refine (chain hb (O1.out _ (E.below hb))).mono ?_; clear hb; rintro e w1 ⟨rfl, hb⟩))
  go_ret
  exact ⟨rfl, hb⟩
set_option maxRecDepth 100000 in
set_option maxHeartbeats 2000000 in
theorem refMul_long (x y : Int) (w : World) (E : Env w) (h : 18 < dlen x + dlen y) (hx : dlen x ≤ 9000) (hy : dlen y ≤ 9000) :
    Calls Tryz.prog 99 #[.string (itoaB x), .string (itoaB y)] w fun e w' => e = .returned (.string (itoaB (x * y))) ∧ Below w.heap.size w w' := by
  have s1 : ∀ w, Calls Tryz.prog 71 #[.string (itoaB x)] w fun e w' => e = .returned (.tuple #[.bool (decide (x < 0)), .string (magB (itoaB x))]) ∧ Below w.heap.size w w' := fun w => split_any _ w _ (neg_itoaB x)
  have s2 : ∀ w, Calls Tryz.prog 71 #[.string (itoaB y)] w fun e w' => e = .returned (.tuple #[.bool (decide (y < 0)), .string (magB (itoaB y))]) ∧ Below w.heap.size w w' := fun w => split_any _ w _ (neg_itoaB y)
  have t1 : ∀ w, Calls Tryz.prog 134 #[.string (magB (itoaB x))] w (RetP w (pcN x.natAbs)) := fun w => take_itoa x w (by omega)
  have t2 : ∀ w, Calls Tryz.prog 134 #[.string (magB (itoaB y))] w (RetP w (pcN y.natAbs)) := fun w => take_itoa y w (by omega)
  have hsz : (18 : Int) < ((magB (itoaB x)).size : Int) + (magB (itoaB y)).size := by rw [magB_dlen, magB_dlen]; omega
  have hz1 : (magB (itoaB x)).size ≤ 9000 := by rw [magB_dlen]; omega
  have hz2 : (magB (itoaB y)).size ≤ 9000 := by rw [magB_dlen]; omega
  have lx : (pcN x.natAbs).length ≤ 9000 := pcN_len_dec _ _ (by unfold dlen at hx; exact hx)
  have ly : (pcN y.natAbs).length ≤ 9000 := pcN_len_dec _ _ (by unfold dlen at hy; exact hy)
  have hd : (Lib.decDigits (x.natAbs * y.natAbs)).length ≤ 18000 := dec_mul_len 9000 9000 _ _ (by decide) (by unfold dlen at hx; exact hx) (by unfold dlen at hy; exact hy)
  have lz : (pcN (x.natAbs * y.natAbs)).length ≤ 100000 := by have := pcN_len_dec _ _ hd; omega
  have hres : strOf (sgn (!(decide (x < 0) == decide (y < 0))) (x.natAbs * y.natAbs)) = itoaB (x * y) := by
    unfold itoaB; rw [sgn_of (x * y) _ _ (by rw [Int.natAbs_mul]) (fun h0 => neg_mul x y h0)]
  have LX := Lib.hid lx
  have LY := Lib.hid ly
  have LZ := Lib.hid lz
  have HD : Hid ((Lib.decDigits (x.natAbs * y.natAbs)).length ≤ 1000000) := Lib.hid (by omega)
  obtain ⟨X, hX⟩ : ∃ v, x.natAbs = v := ⟨_, rfl⟩
  obtain ⟨Y, hY⟩ : ∃ v, y.natAbs = v := ⟨_, rfl⟩
  obtain ⟨mx, hmx⟩ : ∃ v, decide (x < 0) = v := ⟨_, rfl⟩
  obtain ⟨my, hmy⟩ : ∃ v, decide (y < 0) = v := ⟨_, rfl⟩
  obtain ⟨sx, hsx⟩ : ∃ v, magB (itoaB x) = v := ⟨_, rfl⟩
  obtain ⟨sy, hsy⟩ : ∃ v, magB (itoaB y) = v := ⟨_, rfl⟩
  obtain ⟨r, hr⟩ : ∃ v, itoaB (x * y) = v := ⟨_, rfl⟩
  obtain ⟨a, ha⟩ : ∃ v, itoaB x = v := ⟨_, rfl⟩
  obtain ⟨b, hb0⟩ : ∃ v, itoaB y = v := ⟨_, rfl⟩
  rw [hX, hY] at hres LZ HD
  rw [hX] at LX t1
  rw [hY] at LY t2
  rw [hsx] at s1 t1 hsz hz1
  rw [hsy] at s2 t2 hsz hz2
  rw [hmx] at s1 hres
  rw [hmy] at s2 hres
  rw [hr] at hres ⊢
  rw [ha] at s1 ⊢
  rw [hb0] at s2 ⊢
  have S1 := Lib.hid s1
  have S2 := Lib.hid s2
  have T1 := Lib.hid t1
  have T2 := Lib.hid t2
  have HR := Lib.hid hres
  clear s1 s2 t1 t2 hres hmx hmy hsx hsy hr ha hb0 h hx hy lx ly lz hd hX hY
  have hb := Below.refl w.heap.size w
  go_enter Tryz.func99, Tryz.ntmps99
  go_wp2_with (first | (go_at_call 71; first | (with_reducible refine (chain hb (S1.out _)).mono ?_; clear hb; rintro e w1 ⟨rfl, hb⟩) | (with_reducible refine (chain hb (S2.out _)).mono ?_; clear hb; rintro e w1 ⟨rfl, hb⟩)) | (go_at_call 134; first | (with_reducible refine (chainR hb (T1.out _)).mono ?_; clear hb; rintro e w1 ⟨p1, n1, c1, rfl, hs1, hl1, hb⟩; have HS1 := Lib.hid hs1; have HL1 := Lib.hid hl1; clear hs1 hl1) | (with_reducible refine (chainR hb (T2.out _)).mono ?_; clear hb; rintro e w2 ⟨p2, n2, c2, rfl, hs2, hl2, hb⟩; have HS2 := Lib.hid hs2; have HL2 := Lib.hid hl2; clear hs2 hl2)) | (go_at_call 150; refine (chainR hb (refTimes_sl (HS1.out.below HL2.out) HS2.out LX.out LY.out)).mono ?_; clear hb; rintro e w3 ⟨p3, n3, c3, rfl, hs3, hl3, hb⟩; have HS3 := Lib.hid hs3; clear hs3 hl3) | (go_at_call 136; refine (chain hb (made_sl (E.below hb) HS3.out LZ.out HD.out _ r HR.out)).mono ?_; clear hb; rintro e w4 ⟨rfl, hb⟩))
  go_ret
  exact ⟨rfl, hb⟩
/-- The reference's product. -/
theorem refMul_any (x y : Int) (w : World) (E : Env w) (hx : dlen x ≤ 9000) (hy : dlen y ≤ 9000) :
    Calls Tryz.prog 99 #[.string (itoaB x), .string (itoaB y)] w fun e w' => e = .returned (.string (itoaB (x * y))) ∧ Below w.heap.size w w' := by
  by_cases h : dlen x + dlen y ≤ 18
  · exact refMul_short x y w E h
  · exact refMul_long x y w E (by omega) hx hy
end Go.Proofs.YtgllflfifbacnaaGreatDoor.Kl
/- Contracts: the program's power of pieces. -/
namespace Go.Proofs.YtgllflfifbacnaaGreatDoor.Kl
open Go Go.RowKit

theorem bitLenAux_lt : ∀ (f x : Nat), x < 2 ^ f → x < 2 ^ Lib.bitLenAux f x
  | 0, x, h => h
  | f + 1, x, h => by
    unfold Lib.bitLenAux
    by_cases h0 : x = 0
    · rw [if_pos h0, h0]; decide
    · rw [if_neg h0]
      have := bitLenAux_lt f (x / 2) (by rw [Nat.pow_succ] at h; omega)
      rw [Nat.add_comm, Nat.pow_succ]; omega
theorem bitLenAux_le : ∀ (f x : Nat), Lib.bitLenAux f x ≤ f
  | 0, _ => Nat.le_refl _
  | f + 1, x => by
    unfold Lib.bitLenAux; split
    · omega
    · have := bitLenAux_le f (x / 2); omega
set_option maxRecDepth 100000 in
set_option maxHeartbeats 2000000 in
/-- The reference's power, as long as the powers are not too long. -/
theorem refPower_gen (x : Int) (e B : Nat) (w : World) (E : Env w) (he : e ≤ B) (hB : B ≤ 1000) (hx : dlen x ≤ 300) (hl : ∀ k, k ≤ B → dlen (x ^ k) ≤ 8000) :
    Calls Tryz.prog 159 #[.string (itoaB x), .int .i64 e] w fun e' w' => e' = .returned (.string (itoaB (x ^ e))) ∧ Below w.heap.size w w' := by
  have m1 : ∀ k w, k ≤ B → Env w → Calls Tryz.prog 99 #[.string (itoaB (x ^ k)), .string (itoaB x)] w fun e w' => e = .returned (.string (itoaB (x ^ (k + 1)))) ∧ Below w.heap.size w w' := fun k w hk E => by
    rw [Int.pow_succ]; exact refMul_any (x ^ k) x w E (by have := hl k hk; omega) (by omega)
  have h1 : (⟨#[49]⟩ : ByteArray) = itoaB (x ^ 0) := by
    rw [Int.pow_zero]; unfold itoaB; rw [itoa_nat 1 (by decide), show (1 : Int).toNat = 1 by rfl, show Lib.decDigits 1 = [49] by rw [Lib.decDigits]; rfl]; rfl
  have M1 := Lib.hid m1
  have H1 := Lib.hid h1
  obtain ⟨a, ha⟩ : ∃ a, itoaB x = a := ⟨_, rfl⟩
  rw [ha] at M1 ⊢
  clear m1 h1 ha hl hx
  go_enter Tryz.func159, Tryz.ntmps159
  go_wp2
  go_loopw [5, 6] (fun ov iv2 wr => ∃ (k : Nat) (o : ByteArray), ov = .string o ∧ iv2 = .int .i64 k ∧ k ≤ e ∧ Hid (o = itoaB (x ^ k)) ∧ Below w.heap.size w wr) (fun _ iv2 _ => e - (intOf iv2).toNat)
  case atStart => exact ⟨0, _, rfl, rfl, Nat.zero_le _, H1, Below.refl _ _⟩
  case round =>
    obtain ⟨k, o, rfl, rfl, hk, HO, hb⟩ := hrel
    by_cases hlt : k < e
    · have hlt' : (k : Int) < (e : Int) := by omega
      have cm : Calls Tryz.prog 99 #[.string o, .string a] wr fun e w' => e = .returned (.string (itoaB (x ^ (k + 1)))) ∧ Below wr.heap.size wr w' := by
        rw [HO.out]; exact M1.out k wr (by omega) (E.below hb)
      have CM := Lib.hid cm
      obtain ⟨r, hr⟩ : ∃ r, itoaB (x ^ (k + 1)) = r := ⟨_, rfl⟩
      rw [hr] at CM
      have HR := Lib.hid hr.symm
      have hk1 : k + 1 ≤ e := by omega
      have hms : e - (k + 1) < e - k := by omega
      clear cm hr
      go_wp2_with (go_at_call 99; refine (chain hb CM.out).mono ?_; clear hb; rintro e' w5 ⟨rfl, hb⟩)
      exact ⟨⟨k + 1, r, rfl, by go_num, hk1, HR, hb⟩, hms⟩
    · obtain rfl : k = e := by omega
      go_wp2
      go_ret
      exact ⟨retS HO.out, hb⟩
end Go.Proofs.YtgllflfifbacnaaGreatDoor.Kl
