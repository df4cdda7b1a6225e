/- Contracts: the program's split and read. -/
import Derived.Test.YtkekdcmonenciaaGreatDoorKlComb
import Derived.Test.YtkekdcmonenciaaGreatDoorKlSplit
namespace Go.Proofs.YtkekdcmonenciaaGreatDoor.Kl
open Go Go.RowKit

set_option maxRecDepth 100000 in
set_option maxHeartbeats 2000000 in
theorem split_dig (s : ByteArray) (w : World) (hs : s.size ≤ 100000) (hd : s.data.toList.all isDig = true) :
    Calls Tryz.prog 69 #[.string s] w (RetP w (pcM (val s.data.toList))) := by
  obtain ⟨i0, hi, hz0, hz1, hz2⟩ := info_parts info3
  obtain ⟨C, hC⟩ : ∃ C : Nat, s.size / 9 + 1 = C := ⟨_, rfl⟩
  have hmk : (Instr.makeSlice 52 (.int .i64 0) (.int .i64 ((s.size : Int) / 9 + 1))).run Tryz.prog w = .ok (.slice (some ⟨w.heap.size, 0, none⟩) 0 C) (w.alloc (.cells (madeCells #[Value.int .i64 0] C) 3)) := by
    rw [show ((s.size : Int) / 9 + 1) = (C : Int) by omega]
    exact make_ints _ Tryz.underlying52 0 C (Nat.zero_le _) (by omega) w
  have hown0 : (w.alloc (.cells (madeCells #[Value.int .i64 0] C) 3)).ownsRow w.heap.size 3 1 (.slice (some ⟨w.heap.size, 0, none⟩) 0 C) 0 [] :=
    World.ownsRow_made w _ C (Nat.le_refl _) (by unfold maxLen; omega) (by rw [size_madeCells]; omega)
  have hb0 := (Below.refl w.heap.size w).alloc (Nat.le_refl _) (.cells (madeCells #[Value.int .i64 0] C) 3)
  have HD := Lib.hid hd
  have HOWN0 := Lib.hid hown0
  have HB0 := Lib.hid hb0
  clear hd hown0 hb0 hC
  go_enter Tryz.func69, Tryz.ntmps69
  go_wp2
  go_loopw [3, 4] (fun v zv wr => ∃ (j : Nat) (z : Int) (out : List Int), zv = .int .i64 z ∧ wr.ownsRow w.heap.size 3 1 v j (iv out) ∧ Take9 s.data.toList j z out ∧ Below w.heap.size w wr) (fun _ zv _ => (intOf zv).toNat)
  case atStart => exact ⟨0, s.size, [], rfl, HOWN0.out, ⟨rfl, fun x hx => by simp at hx, by rw [size_len]; simp, by omega, by
    show 0 + 1 * ((val (s.data.toList.take ((s.size : Int)).toNat) : Nat) : Int) = _
    rw [Int.toNat_natCast, val_whole]; omega⟩, HB0.out⟩
  case round =>
    obtain ⟨j, z, out, rfl, hown, hta, hb⟩ := hrel
    have HT := Lib.hid hta
    have hze := hta.eq
    have hlo := hta.lo
    rw [← size_len] at hze
    have HZE := Lib.hid hze
    have hzhi : z ≤ 10000000000 := by omega
    have hjhi : j ≤ 10000000000 := by omega
    clear hta hze
    by_cases hz : 0 < z
    · obtain ⟨e, he⟩ : ∃ e : Nat, z = e := ⟨z.toNat, by omega⟩
      subst he
      have hes : e ≤ s.size := by have := HZE.out; omega
      have hmx : max (0 : Int) ((e : Int) - 9) = ((e - 9 : Nat) : Int) := by omega
      obtain ⟨lo, hlo2⟩ : ∃ lo, e - 9 = lo := ⟨_, rfl⟩
      rw [hlo2] at hmx
      have hle : lo ≤ e := by omega
      have HLO := Lib.hid hlo2
      clear hlo2
      go_wp2
      obtain ⟨wo, rfl⟩ : ∃ wo : World, wo = wr := ⟨_, rfl⟩
      go_loop [5, 6] (fun nv iv2 => ∃ i : Nat, lo ≤ i ∧ i ≤ e ∧ iv2 = .int .i64 i ∧ nv = .int .i64 (val (win s.data.toList lo i) : Int)) (fun _ iv2 => e - (intOf iv2).toNat)
      case atStart => exact ⟨lo, Nat.le_refl _, hle, rfl, by simp [win, val, valFrom]⟩
      case round =>
        obtain ⟨i, hil, hie, rfl, rfl⟩ := hrel
        have hvb : val (win s.data.toList lo i) < 1000000000 := by
          have h1 := val_lt _ (win_dig HD.out lo i)
          rw [win_len _ lo i (by rw [← size_len]; omega)] at h1
          have h2 : 10 ^ (i - lo) ≤ 10 ^ 9 := Nat.pow_le_pow_right (by decide) (by have := HLO.out; omega)
          exact Nat.lt_of_lt_of_le h1 h2
        by_cases hlt : i < e
        · have his : i < s.size := by omega
          have hdig : isDig s[i] = true := List.all_eq_true.1 HD.out s[i] (List.mem_of_getElem (i := i) (h := by simpa using his) rfl)
          have hd1 := isDig_iff.1 hdig
          have hws : val (win s.data.toList lo (i + 1)) = val (win s.data.toList lo i) * 10 + (s[i].toNat - 48) := win_succ s lo i hil his
          have HW := Lib.hid hws
          obtain ⟨V, hV⟩ : ∃ V, val (win s.data.toList lo i) = V := ⟨_, rfl⟩
          rw [hV] at hvb ⊢
          have HVV := Lib.hid hV
          clear hws hV hdig
          go_wp2
          go_round
          case rel => exact ⟨i + 1, by omega, by omega, by go_num, by rw [HW.out, HVV.out]; go_num⟩
          case measure => simp [intOf]; omega
        · obtain rfl : i = e := by omega
          obtain ⟨V, hV⟩ : ∃ V, val (win s.data.toList lo i) = V := ⟨_, rfl⟩
          rw [hV] at hvb ⊢
          have hst := (take9_step HD.out HT.out hz i rfl).1
          rw [HLO.out, hV] at hst
          have HS := Lib.hid hst
          clear hst hV
          go_wp2_with (at_builtin; refine wpList_append_own _ rfl _ _ 52 rfl w.heap.size 3 i0 (.int .i64 0) 1 8 Tryz.underlying52 hi hz0 hz1 hz2 rfl (by decide) _ _ _ rfl (hown.alloc _) ⟨wo.heap.size, 0, none⟩ 1 1 [.int .i64 (V : Int)] rfl rfl ?c1 ?c2 ?c3 ?c4 ?c5 ?_)
          case c2 => simp [Value.oneCell']
          case c3 => unfold maxLen; omega
          case c4 => omega
          case c5 => have := hb.size; omega
          intro v' w1 hown1 hgrow _
          rw [iv_snoc] at hown1
          have hb1 := (hb.alloc hb.size (Obj.cells #[Value.int IntKind.i64 (V : Int)] 3)).grown hgrow (by simp only [World.size_alloc]; have := hb.size; omega) (own_ge3 hown)
          have HB := Lib.hid hb1
          have HO := Lib.hid hown1
          clear hb hown hgrow hb1 hown1
          go_wp2
          go_roundw
          case rel => exact ⟨j + 1, (i : Int) - 9, out ++ [(V : Int)], rfl, HO.out, HS.out, HB.out⟩
          case measure => simp [intOf]; omega
    · have hlen := HT.out.len
      have hval : pval 1000000000 out = (val s.data.toList : Int) := by
        have h1 := HT.out.sum
        rw [show z.toNat = 0 by omega] at h1
        have h2 : pval 1000000000 out + 1000000000 ^ j * ((val (s.data.toList.take 0) : Nat) : Int) = _ := h1
        rw [← h2]; simp [val, valFrom]
      obtain ⟨p1, c1, rfl, hnc, hc1, hpn, hh⟩ := has_of_row hown hlen
      have HH := Lib.hid (trim_any p1 j c1 out wr hlen.symm hnc hc1 hpn hh)
      have HE : Hid (trimP out = pcM (val s.data.toList)) := by show _ = _; rw [trim_pcM_of HT.out.inr _ hval]
      have HB := Lib.hid hb
      clear hown hh hb hlen hval hpn
      go_wp2_with (go_at_call 78; refine HH.out.mono ?_; rintro e w1 ⟨p2, n2, c2, rfl, hr⟩; have HR := Lib.hid hr; clear hr)
      go_ret
      have h9 := RetP.behind HB.out (⟨p2, n2, c2, rfl, HR.out⟩ : RetP wr (trimP out) (.returned (.slice p2 n2 c2)) w1)
      rw [HE.out] at h9
      exact h9
end Go.Proofs.YtkekdcmonenciaaGreatDoor.Kl
