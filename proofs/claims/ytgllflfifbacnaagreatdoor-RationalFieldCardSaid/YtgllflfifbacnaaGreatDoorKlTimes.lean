/- Contracts: the program's times. -/
import Derived.Test.YtgllflfifbacnaaGreatDoorKlPcsM
namespace Go.Proofs.YtgllflfifbacnaaGreatDoor.Kl
open Go Go.RowKit

theorem convAt_lo {xs ys : List Int} {k j : Nat} (h : j < k + 1 - ys.length) : convAt xs ys k j = 0 := by
  unfold convAt; rw [List.getElem?_eq_none (l := ys) (by omega)]; simp
theorem convAt_hi {xs ys : List Int} {k j : Nat} (h : xs.length ≤ j) : convAt xs ys k j = 0 := by
  unfold convAt; rw [List.getElem?_eq_none (l := xs) (by omega)]; simp
structure TimesAt (xs ys : List Int) (L k : Nat) (o : Int) (out : List Int) (W0 wr : World) (B : Nat) : Prop where
  le : k ≤ L
  col : ColAt 1000000000 (conv xs ys) k o out
  lo : 0 ≤ o
  hi : o ≤ 900000000000000
  own : wr.ownsRow B 3 1 (.slice (some ⟨B, 0, none⟩) L L) L (iv (out ++ List.replicate (L - k) 0))
  bel : Below B W0 wr

set_option maxRecDepth 100000 in
set_option maxHeartbeats 4000000 in
theorem times_any (p q : Option Addr) (c d n m : Nat) (xs ys : List Int) (w : World) (hn : n = xs.length) (hm : m = ys.length) (hnl : n ≤ 100000) (hml : m ≤ 100000) (hp : Has w p xs) (hq : Has w q ys)
    (hxs : ∀ j : Nat, 0 ≤ xs[j]?.getD 0 ∧ xs[j]?.getD 0 < 1000000000) (hys : ∀ j : Nat, 0 ≤ ys[j]?.getD 0 ∧ ys[j]?.getD 0 < 1000000000)
    (V : Nat) (hV : pval 1000000000 xs * pval 1000000000 ys = V) (hVL : V < 1000000000 ^ (n + m)) :
    Calls Tryz.prog 191 #[.slice p n c, .slice q m d] w (RetP w (pcM V)) := by
  obtain ⟨L, hL⟩ : ∃ L : Nat, n + m = L := ⟨_, rfl⟩
  have hLi : (n : Int) + (m : Int) = (L : Int) := by omega
  have hmk : (Instr.makeSlice 120 (.int .i64 (L : Int)) (.int .i64 (L : Int))).run Tryz.prog w = .ok (.slice (some ⟨w.heap.size, 0, none⟩) L L) (w.alloc (.cells (madeCells #[Value.int .i64 0] L) 3)) :=
    make_ints _ Tryz.underlying120 L L (Nat.le_refl _) (by omega) w
  have hz := own_zeros w L (by omega)
  have hbel := (Below.refl w.heap.size w).alloc (Nat.le_refl _) (.cells (madeCells #[Value.int .i64 0] L) 3)
  have HN := Lib.hid hn
  have HM := Lib.hid hm
  have HP := Lib.hid hp
  have HQ := Lib.hid hq
  have HXS := Lib.hid hxs
  have HYS := Lib.hid hys
  have HV := Lib.hid hV
  have HVL : Hid (V < 1000000000 ^ L) := by show V < _; rw [← hL]; exact hVL
  have HL := Lib.hid hL
  have HZ := Lib.hid hz
  have HBEL := Lib.hid hbel
  have hLb : L ≤ 200000 := by omega
  clear hn hm hp hq hxs hys hV hVL hL hz hbel
  go_enter Tryz.func191, Tryz.ntmps191
  go_wp2
  go_loopw [6, 19] (fun ov iv2 wr => ∃ (k : Nat) (o : Int) (out : List Int), ov = .int .i64 o ∧ iv2 = .int .i64 k ∧ TimesAt xs ys L k o out w wr w.heap.size) (fun _ iv2 _ => L - (intOf iv2).toNat)
  case atStart => exact ⟨0, 0, [], rfl, rfl, Nat.zero_le _, col_zero _ _, by decide, by decide, HZ.out, HBEL.out⟩
  case round =>
    obtain ⟨k, o, out, rfl, rfl, hC⟩ := hrel
    have HC := Lib.hid hC
    have hkL := hC.le
    have ho0 := hC.lo
    have ho1 := hC.hi
    clear hC HZ HBEL hmk hLi
    by_cases hk : k < L
    · have hk' : (k : Int) < (L : Int) := by omega
      obtain ⟨lo, hlo⟩ : ∃ lo : Nat, k + 1 - m = lo := ⟨_, rfl⟩
      have hmx : max (0 : Int) ((k : Int) - (m : Int) + 1) = (lo : Int) := by omega
      have hst0 : dsum (convAt xs ys k) lo = 0 := dsum_zero _ fun j hj => convAt_lo (by have := HM.out; omega)
      have HST0 := Lib.hid hst0
      have HLO := Lib.hid hlo
      have hlok : lo ≤ k + 1 := by omega
      have hlon : lo ≤ n := by have := HL.out; omega
      clear hst0 hlo
      go_wp2
      go_loopw [8, 9, 10] (fun sv fv iv3 wr2 => ∃ (i f : Nat) (s : Int), sv = .int .i64 s ∧ fv = .int .i64 f ∧ iv3 = .int .i64 i ∧ lo ≤ i ∧ i ≤ k + 1 ∧ i ≤ n ∧ 0 ≤ s ∧ s < 8000000000000000000 ∧ f ≤ i ∧ s + f * 8000000000000000000 = o + dsum (convAt xs ys k) i ∧ ∃ nq, wr2 = wr.drewN nq) (fun _ _ iv3 _ => k + 1 - (intOf iv3).toNat)
      case atStart => exact ⟨lo, 0, o, rfl, rfl, rfl, Nat.le_refl _, hlok, hlon, ho0, by omega, Nat.zero_le _, by rw [HST0.out]; omega, 0, rfl⟩
      case round =>
        obtain ⟨i, f, s, rfl, rfl, rfl, hil, hik, hin, hs0, hs1, hf, hsum, nq0, rfl⟩ := hrel
        have HSUM := Lib.hid hsum
        clear hsum
        by_cases hi : i ≤ k ∧ i < n
        · have hcond : (i : Int) ≤ min (k : Int) ((n : Int) - 1) := by omega
          obtain ⟨j, hj⟩ : ∃ j : Nat, k - i = j := ⟨_, rfl⟩
          have hji : (k : Int) - (i : Int) = (j : Int) := by omega
          have hjm : j < m := by have := HLO.out; omega
          have hx := HXS.out i
          have hy := HYS.out j
          rcases HP.out with hpe | ⟨b1, o1, rfl, hb1, hcx⟩
          · exfalso; have := HN.out; rw [hpe] at this; have h9 := hi.2; rw [this] at h9; exact absurd h9 (Nat.not_lt_zero _)
          rcases HQ.out with hqe | ⟨b2, o2, rfl, hb2, hcy⟩
          · exfalso; have := HM.out; rw [hqe] at this; rw [this] at hjm; exact absurd hjm (Nat.not_lt_zero _)
          have hcxi := (HC.out.bel.cell (p := ⟨b1, o1 + i, none⟩) hb1).trans (hcx i (by have := HN.out; omega))
          have hcyj := (HC.out.bel.cell (p := ⟨b2, o2 + j, none⟩) hb2).trans (hcy j (by have := HM.out; omega))
          have hdn : dsum (convAt xs ys k) (i + 1) = dsum (convAt xs ys k) i + xs[i]?.getD 0 * ys[j]?.getD 0 := by rw [← hj]; rfl
          obtain ⟨x, hxd⟩ : ∃ x, xs[i]?.getD 0 = x := ⟨_, rfl⟩
          obtain ⟨y, hyd⟩ : ∃ y, ys[j]?.getD 0 = y := ⟨_, rfl⟩
          rw [hxd] at hx hcxi hdn
          rw [hyd] at hy hcyj hdn
          have hp0 : 0 ≤ x * y := Int.mul_nonneg hx.1 hy.1
          have hp1 : x * y ≤ 1000000000000000000 := by
            have := Int.mul_le_mul (show x ≤ 1000000000 by omega) (show y ≤ 1000000000 by omega) hy.1 (by decide); omega
          obtain ⟨pr, hpr⟩ : ∃ pr, x * y = pr := ⟨_, rfl⟩
          rw [hpr] at hp0 hp1 hdn
          have w1 : IntKind.i64.wrap (x * y) = pr := by rw [hpr]; exact IntWalk.i64_in _ (by omega)
          have w2 : IntKind.i64.wrap (s + pr) = s + pr := IntWalk.i64_in _ (by omega)
          have hsn := HSUM.out
          have HDN := Lib.hid hdn
          have i1 : (i : Int) < (n : Int) := by omega
          have i2 : (j : Int) < (m : Int) := by omega
          have w3 : IntKind.i64.wrap ((k : Int) - (i : Int)) = (j : Int) := by rw [hji]; exact IntWalk.i64_in _ (by omega)
          clear hdn hxd hyd hpr hj hsn hcx hcy
          go_wp2
          go_quiet (fail)
          go_wp2
          · exact ⟨⟨i + 1, f + 1, s + pr - 8000000000000000000, rfl, by go_num, by go_num, by omega, by omega, by omega, by omega, by omega, by omega, by rw [HDN.out]; have := HSUM.out; omega, _, rfl⟩, by simp [intOf]; omega⟩
          · exact ⟨⟨i + 1, f, s + pr, rfl, rfl, by go_num, by omega, by omega, by omega, by omega, by omega, by omega, by rw [HDN.out]; have := HSUM.out; omega, _, rfl⟩, by simp [intOf]; omega⟩
        · have hcond : ¬ (i : Int) ≤ min (k : Int) ((n : Int) - 1) := by omega
          have hcv : conv xs ys k = dsum (convAt xs ys k) i := dsum_more hik (fun j h1 h2 => convAt_hi (by have := HN.out; omega))
          have hT : o + conv xs ys k = s + f * 8000000000000000000 := by rw [hcv]; exact HSUM.out.symm
          have hst := col_step (by decide : (0 : Int) < 1000000000) HC.out.col
          rw [hT, show (s + (f : Int) * 8000000000000000000) / 1000000000 = s / 1000000000 + f * 8000000000 by omega, show (s + (f : Int) * 8000000000000000000) % 1000000000 = s % 1000000000 by omega] at hst
          have hq0 : 0 ≤ s / 1000000000 := by omega
          have hq1 : s / 1000000000 ≤ 8000000000 := by omega
          have hfn : (f : Int) ≤ 100000 := by omega
          obtain ⟨W9, hW9⟩ : ∃ W9, wr.drewN nq0 = W9 := ⟨_, rfl⟩
          have hown : W9.ownsRow w.heap.size 3 1 (.slice (some ⟨w.heap.size, 0, none⟩) L L) L (iv (out ++ List.replicate (L - k) 0)) := by rw [← hW9]; exact HC.out.own
          have hbl9 : Below w.heap.size w W9 := by rw [← hW9]; exact Below.drews HC.out.bel _
          rw [hW9]
          clear hW9
          have c9 := cut9_any s W9 (by omega) (by omega)
          obtain ⟨qq, hqq⟩ : ∃ qq, s / 1000000000 = qq := ⟨_, rfl⟩
          obtain ⟨rr, hrr⟩ : ∃ rr, s % 1000000000 = rr := ⟨_, rfl⟩
          rw [hqq, hrr] at c9 hst
          rw [hqq] at hq0 hq1
          obtain ⟨f8, hf8⟩ : ∃ f8, (f : Int) * 8000000000 = f8 := ⟨_, rfl⟩
          have hf80 : 0 ≤ f8 := by omega
          have hf81 : f8 ≤ 800000000000000 := by omega
          rw [hf8] at hst
          have hz1 : 0 ≤ qq + f8 := by omega
          have hz2 : qq + f8 ≤ 900000000000000 := by omega
          have hz3 : k + 1 ≤ L := by omega
          have hz4 : L - (k + 1) < L - k := by omega
          have w1 : IntKind.i64.wrap ((f : Int) * 8000000000) = f8 := by rw [hf8]; exact IntWalk.i64_in _ (by omega)
          have w2 : IntKind.i64.wrap (qq + f8) = qq + f8 := IntWalk.i64_in _ (by omega)
          have hlen := HC.out.col.len
          obtain ⟨e, he⟩ : ∃ e, L - k = e + 1 := ⟨L - k - 1, by omega⟩
          have ci : W9.cell? ⟨w.heap.size, k, none⟩ = some (.int .i64 0) := by
            rw [hown.cellAt k (by omega), iv, List.getElem?_map, List.getElem?_append_right (by omega), hlen, Nat.sub_self, he]; rfl
          have fi : W9.frozen? ⟨w.heap.size, k, none⟩ = false := hown.frozenAt k
          have hso := (hown.stored k (.int .i64 rr)).1
          rw [iv_set, he] at hso
          have hsn := set_next out e rr
          rw [hlen] at hsn
          rw [hsn, show e = L - (k + 1) by omega] at hso
          have hbl := hbl9.setCell (p := ⟨w.heap.size, k, none⟩) (Nat.le_refl _) (.int .i64 rr)
          have C9 := Lib.hid c9
          have HST := Lib.hid hst
          have HSO := Lib.hid hso
          have HBL := Lib.hid hbl
          clear c9 hst hso hbl hsn hown he hlen hqq hrr hcv hT hbl9 hf8 hs0 hs1 hf
          go_wp2_with (go_at_call 203; refine C9.out.mono ?_; rintro e w1 ⟨rfl, rfl⟩)
          exact ⟨⟨k + 1, qq + f8, out ++ [rr], rfl, by go_num, hz3, HST.out, hz1, hz2, HSO.out, HBL.out⟩, hz4⟩
    · obtain rfl : k = L := by omega
      have hps : psum 1000000000 (conv xs ys) k = V := by
        rw [conv_sum 1000000000 ys xs k (by have := HN.out; have := HM.out; have := HL.out; omega)]; exact HV.out
      have hend := col_end (by decide : (0 : Int) < 1000000000) HC.out.col (by rw [hps]; omega) (by rw [hps]; exact cast_pow9 HVL.out)
      rw [hps] at hend
      have hown := HC.out.own
      rw [Nat.sub_self, List.replicate_zero, List.append_nil] at hown
      obtain ⟨p1, c1, hv1, hnc, hc1, hpn, hh⟩ := has_of_row hown HC.out.col.len
      have hpp : some (⟨w.heap.size, 0, none⟩ : Addr) = p1 ∧ k = c1 := by injection hv1 with h1 _ h3; exact ⟨h1, h3⟩
      obtain ⟨rfl, rfl⟩ := hpp
      have HH := Lib.hid (trim_any (some ⟨w.heap.size, 0, none⟩) k k out wr HC.out.col.len.symm hnc hc1 hpn hh)
      have HE : Hid (trimP out = pcM V) := by show _ = _; exact trim_pcM_of HC.out.col.inr V hend.2
      have HB := Lib.hid HC.out.bel
      clear hown hh hv1 hps hend
      go_wp2_with (go_at_call 169; refine HH.out.mono ?_; rintro e w1 ⟨p2, n2, c2, rfl, hr⟩; have HR := Lib.hid hr; clear hr)
      go_ret
      have h9 := RetP.behind HB.out (⟨p2, n2, c2, rfl, HR.out⟩ : RetP wr (trimP out) (.returned (.slice p2 n2 c2)) w1)
      rw [HE.out] at h9
      exact h9
theorem times_sm {p q : Option Addr} {n c m d X Y : Nat} {w : World} (h1 : Sm w p n c X) (h2 : Sm w q m d Y) (hX : (pcM X).length ≤ 100000) (hY : (pcM Y).length ≤ 100000) :
    Calls Tryz.prog 191 #[.slice p n c, .slice q m d] w (RetP w (pcM (X * Y))) := by
  refine times_any p q c d n m _ _ w h1.len h2.len (by rw [h1.len]; exact hX) (by rw [h2.len]; exact hY) h1.has h2.has (pcM_in X) (pcM_in Y) (X * Y) (by rw [(pcM_isP X).2, (pcM_isP Y).2, Int.natCast_mul]) ?_
  rw [h1.len, h2.len, Nat.pow_add]
  exact Nat.mul_lt_mul'' (pcM_lt X) (pcM_lt Y)
end Go.Proofs.YtgllflfifbacnaaGreatDoor.Kl
