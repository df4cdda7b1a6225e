/- Contracts: the reference's take. -/
import Derived.Test.YtgllflfifbacnaaGreatDoorKlCarry
import Derived.Test.YtgllflfifbacnaaGreatDoorKlCanon
namespace Go.Proofs.YtgllflfifbacnaaGreatDoor.Kl
open Go Go.RowKit

/-- Where take stands behind j pieces: z digits are left. -/
structure TakeAt (l : List UInt8) (j : Nat) (z : Int) (out : List Int) : Prop where
  len : out.length = j
  inr : Inr 10000 out
  eq : z = (l.length : Int) - 4 * j
  lo : -4 < z
  sum : pval 10000 out + 10000 ^ j * (val (l.take z.toNat) : Int) = (val l : Int)
/-- A window of digits. -/
def win (l : List UInt8) (a b : Nat) : List UInt8 := (l.take b).drop a
theorem val_whole (s : ByteArray) : val (s.data.toList.take s.size) = val s.data.toList := by
  rw [List.take_of_length_le (by rw [Array.length_toList]; exact Nat.le_refl _)]
theorem win_succ (s : ByteArray) (a b : Nat) (hab : a ≤ b) (hb : b < s.size) : valFrom 0 (win s.data.toList a (b + 1)) = valFrom 0 (win s.data.toList a b) * 10 + (s[b].toNat - 48) := by
  unfold win
  rw [take_snoc s b hb, List.drop_append_of_le_length (by rw [List.length_take, ← size_len]; omega), valFrom_append, valFrom_cons, valFrom_nil]
theorem win_dig {l : List UInt8} (h : l.all isDig = true) (a b : Nat) : (win l a b).all isDig = true := by
  rw [List.all_eq_true] at h ⊢
  exact fun x hx => h x (List.mem_of_mem_take (List.mem_of_mem_drop hx))
theorem win_len (l : List UInt8) (a b : Nat) (h : b ≤ l.length) : (win l a b).length = b - a := by
  unfold win; rw [List.length_drop, List.length_take]; omega
theorem val_split (l : List UInt8) (a b : Nat) (hab : a ≤ b) (hb : b ≤ l.length) : val (l.take b) = val (l.take a) * 10 ^ (b - a) + val (win l a b) := by
  have e : l.take b = l.take a ++ win l a b := by
    have h := List.take_append_drop a (l.take b)
    rw [List.take_take, Nat.min_eq_left hab] at h
    exact h.symm
  have h2 : val (l.take b) = valFrom (val (l.take a)) (win l a b) := by
    unfold val; rw [e, valFrom_append]
  rw [h2, valFrom_eq, win_len l a b hb]; rfl
theorem take_step {l : List UInt8} (hd : l.all isDig = true) {j : Nat} {z : Int} {out : List Int} (h : TakeAt l j z out) (hz : 0 < z) (e : Nat) (he : z = e) :
    TakeAt l (j + 1) (z - 4) (out ++ [(val (win l (e - 4) e) : Int)]) ∧ val (win l (e - 4) e) < 10000 := by
  have hel : e ≤ l.length := by have := h.eq; omega
  have hw : val (win l (e - 4) e) < 10000 := by
    have h1 := val_lt _ (win_dig hd (e - 4) e)
    rw [win_len l (e - 4) e hel] at h1
    have h2 : 10 ^ (e - (e - 4)) ≤ 10 ^ 4 := Nat.pow_le_pow_right (by decide) (by omega)
    exact Nat.lt_of_lt_of_le h1 h2
  refine ⟨⟨by rw [List.length_append, h.len]; rfl, fun x hx => ?_, by rw [h.eq]; omega, by omega, ?_⟩, hw⟩
  · rcases List.mem_append.1 hx with hx | hx
    · exact h.inr x hx
    · obtain rfl : x = (val (win l (e - 4) e) : Int) := by simpa using hx
      omega
  · have hs := h.sum
    have e1 : z.toNat = e := by omega
    have e2 : (z - 4).toNat = e - 4 := by omega
    rw [e1, val_split l (e - 4) e (by omega) hel] at hs
    rw [pval_append, h.len, e2, ← hs, Int.pow_succ]
    show pval 10000 out + 10000 ^ j * ((val (win l (e - 4) e) : Int) + 10000 * 0) + 10000 ^ j * 10000 * (val (l.take (e - 4)) : Int) = _
    have hv : (val (l.take (e - 4)) * 10 ^ (e - (e - 4)) : Nat) = val (l.take (e - 4)) * 10000 := by
      by_cases h4 : 4 ≤ e
      · rw [show e - (e - 4) = 4 by omega]
      · rw [show e - 4 = 0 by omega]; simp [val, valFrom]
    rw [hv]
    generalize val (l.take (e - 4)) = A
    generalize val (win l (e - 4) e) = C
    rw [Int.add_assoc, Int.mul_assoc, ← Int.mul_add]
    congr 2
    omega

set_option maxRecDepth 100000 in
set_option maxHeartbeats 2000000 in
theorem take_any (s : ByteArray) (w : World) (hs : s.size ≤ 100000) (hd : s.data.toList.all isDig = true) :
    Calls Tryz.prog 134 #[.string s] w (RetP w (pcN (val s.data.toList))) := by
  obtain ⟨i0, hi, hz0, hz1, hz2⟩ := info_parts info3
  have HD := Lib.hid hd
  clear hd
  go_enter Tryz.func134, Tryz.ntmps134
  go_wp2
  go_loopw [3, 4] (fun v zv wr => ∃ (j : Nat) (z : Int) (out : List Int), zv = .int .i64 z ∧ wr.ownsRow w.heap.size 3 1 v j (iv out) ∧ TakeAt s.data.toList j z out ∧ Below w.heap.size w wr) (fun _ zv _ => (intOf zv).toNat)
  case atStart => exact ⟨0, s.size, [], rfl, World.ownsRow_nil _ _ _ _, ⟨rfl, fun x hx => by simp at hx, by rw [size_len]; simp, by omega, by
    show 0 + 1 * ((val (s.data.toList.take ((s.size : Int)).toNat) : Nat) : Int) = _
    rw [Int.toNat_natCast, val_whole]; omega⟩, Below.refl _ _⟩
  case round =>
    obtain ⟨j, z, out, rfl, hown, hta, hb⟩ := hrel
    have HT := Lib.hid hta
    have hze := hta.eq
    have hlo := hta.lo
    rw [← size_len] at hze
    have HZE := Lib.hid hze
    have hzhi : z ≤ 100000 := by omega
    have hjhi : j ≤ 100000 := by omega
    clear hta hze
    by_cases hz : 0 < z
    · obtain ⟨e, he⟩ : ∃ e : Nat, z = e := ⟨z.toNat, by omega⟩
      subst he
      have hes : e ≤ s.size := by have := HZE.out; omega
      have hmx : max (0 : Int) ((e : Int) - 4) = ((e - 4 : Nat) : Int) := by omega
      obtain ⟨lo, hlo2⟩ : ∃ lo, e - 4 = lo := ⟨_, rfl⟩
      rw [hlo2] at hmx
      have hle : lo ≤ e := by omega
      have HLO := Lib.hid hlo2
      clear hlo2
      go_wp2
      obtain ⟨wo, rfl⟩ : ∃ wo : World, wo = wr := ⟨_, rfl⟩
      go_loop [5, 6] (fun nv iv2 => ∃ i : Nat, lo ≤ i ∧ i ≤ e ∧ iv2 = .int .i64 i ∧ nv = .int .i64 (val (win s.data.toList lo i) : Int)) (fun _ iv2 => e - (intOf iv2).toNat)
      case atStart => exact ⟨lo, Nat.le_refl _, hle, rfl, by simp [win, val, valFrom]⟩
      case round =>
        obtain ⟨i, hil, hie, rfl, rfl⟩ := hrel
        have hvb : val (win s.data.toList lo i) < 10000 := by
          have h1 := val_lt _ (win_dig HD.out lo i)
          rw [win_len _ lo i (by rw [← size_len]; omega)] at h1
          have h2 : 10 ^ (i - lo) ≤ 10 ^ 4 := Nat.pow_le_pow_right (by decide) (by have := HLO.out; omega)
          exact Nat.lt_of_lt_of_le h1 h2
        by_cases hlt : i < e
        · have his : i < s.size := by omega
          have hdig : isDig s[i] = true := List.all_eq_true.1 HD.out s[i] (List.mem_of_getElem (i := i) (h := by simpa using his) rfl)
          have hd1 := isDig_iff.1 hdig
          have hws : val (win s.data.toList lo (i + 1)) = val (win s.data.toList lo i) * 10 + (s[i].toNat - 48) := win_succ s lo i hil his
          have HW := Lib.hid hws
          obtain ⟨V, hV⟩ : ∃ V, val (win s.data.toList lo i) = V := ⟨_, rfl⟩
          rw [hV] at hvb ⊢
          have HVV := Lib.hid hV
          clear hws hV hdig
          go_wp2
          go_round
          case rel => exact ⟨i + 1, by omega, by omega, by go_num, by rw [HW.out, HVV.out]; go_num⟩
          case measure => simp [intOf]; omega
        · obtain rfl : i = e := by omega
          obtain ⟨V, hV⟩ : ∃ V, val (win s.data.toList lo i) = V := ⟨_, rfl⟩
          rw [hV] at hvb ⊢
          have hst := (take_step HD.out HT.out hz i rfl).1
          rw [HLO.out, hV] at hst
          have HS := Lib.hid hst
          clear hst hV
          go_wp2_with (at_builtin; refine wpList_append_own _ rfl _ _ 119 rfl w.heap.size 3 i0 (.int .i64 0) 1 8 Tryz.underlying119 hi hz0 hz1 hz2 rfl (by decide) _ _ _ rfl (hown.alloc _) ⟨wo.heap.size, 0, none⟩ 1 1 [.int .i64 (V : Int)] rfl rfl ?c1 ?c2 ?c3 ?c4 ?c5 ?_)
          case c2 => simp [Value.oneCell']
          case c3 => unfold maxLen; omega
          case c4 => omega
          case c5 => have := hb.size; omega
          intro v' w1 hown1 hgrow _
          rw [iv_snoc] at hown1
          have hb1 := (hb.alloc hb.size (Obj.cells #[Value.int IntKind.i64 (V : Int)] 3)).grown hgrow (by simp only [World.size_alloc]; have := hb.size; omega) (own_ge3 hown)
          have HB := Lib.hid hb1
          have HO := Lib.hid hown1
          clear hb hown hgrow hb1 hown1
          go_wp2
          go_roundw
          case rel => exact ⟨j + 1, (i : Int) - 4, out ++ [(V : Int)], rfl, HO.out, HS.out, HB.out⟩
          case measure => simp [intOf]; omega
    · have hlen := HT.out.len
      have hval : pval 10000 out = (val s.data.toList : Int) := by
        have h1 := HT.out.sum
        rw [show z.toNat = 0 by omega] at h1
        have h2 : pval 10000 out + 10000 ^ j * ((val (s.data.toList.take 0) : Nat) : Int) = _ := h1
        rw [← h2]; simp [val, valFrom]
      obtain ⟨p1, c1, rfl, hnc, hc1, hpn, hh⟩ := has_of_row hown hlen
      have HH := Lib.hid (cut_any p1 j c1 out wr hlen.symm hnc hc1 hpn hh)
      have HE : Hid (trimP out = pcN (val s.data.toList)) := by show _ = _; rw [trim_pcN HT.out.inr, hval]; rfl
      have HB := Lib.hid hb
      clear hown hh hb hlen hval hpn
      go_wp2_with (go_at_call 180; refine HH.out.mono ?_; rintro e w1 ⟨p2, n2, c2, rfl, hr⟩; have HR := Lib.hid hr; clear hr)
      go_ret
      have h9 := RetP.behind HB.out (⟨p2, n2, c2, rfl, HR.out⟩ : RetP wr (trimP out) (.returned (.slice p2 n2 c2)) w1)
      rw [HE.out] at h9
      exact h9
end Go.Proofs.YtgllflfifbacnaaGreatDoor.Kl
