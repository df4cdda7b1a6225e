/- Contracts: the program's combine, plus, less. -/
import Derived.Test.YtkekdcmonenciaaGreatDoorKlPcs
import Derived.Test.YtkekdcmonenciaaGreatDoorKlSplit
namespace Go.Proofs.YtkekdcmonenciaaGreatDoor.Kl
open Go Go.RowKit

/-- A row of the call's own stays, while the world grows. -/
theorem own_below {w w' : World} {B : Nat} {e : TypeId} {size : Nat} {v : Value} {n : Nat} {xs : List Value} (h : w.ownsRow B e size v n xs) (hb : Below w.heap.size w w') : w'.ownsRow B e size v n xs := by
  obtain ⟨h1, h2⟩ := h
  refine ⟨h1, ?_⟩
  rcases h2 with h2 | ⟨g, cap, cur, hv, hg, hh, hr⟩
  · exact .inl h2
  · have hlt : g < w.heap.size := by
      by_cases hn : g < w.heap.size
      · exact hn
      · rw [Array.getElem?_eq_none (by omega)] at hh; cases hh
    exact .inr ⟨g, cap, cur, hv, hg, (hb.block g hlt).trans hh, hr⟩
theorem set_next (out : List Int) (d : Nat) (r : Int) : (out ++ List.replicate (d + 1) 0).set out.length r = (out ++ [r]) ++ List.replicate d 0 := by
  rw [List.set_append_right _ _ (Nat.le_refl _), Nat.sub_self, List.replicate_succ]; simp
theorem iv_set (xs : List Int) (i : Nat) (r : Int) : (iv xs).set i (.int .i64 r) = iv (xs.set i r) := by rw [iv, iv, List.map_set]
/-- A new row of zeros. -/
theorem own_zeros (w : World) (n : Nat) (hn : n ≤ 1000000) : (w.alloc (.cells (madeCells #[Value.int .i64 0] n) 3)).ownsRow w.heap.size 3 1 (.slice (some ⟨w.heap.size, 0, none⟩) n n) n (iv (List.replicate n 0)) := by
  have h := World.ownsRow_lit (base := w.heap.size) (e := 3) (size := 1) w (madeCells #[Value.int .i64 0] n) n (Nat.le_refl _) (by unfold maxLen; omega) (by rw [size_madeCells]; omega)
  rwa [made_iv] at h
/-- What combine's columns are. -/
def colC (a b : Int) (xs ys : List Int) (k : Nat) : Int := a * xs[k]?.getD 0 + b * ys[k]?.getD 0
structure CombAt (a b : Int) (xs ys : List Int) (L k : Nat) (o : Int) (out : List Int) (W0 wr : World) (B : Nat) : Prop where
  le : k ≤ L
  col : ColAt 1000000000 (colC a b xs ys) k o out
  lo : -4000000000 ≤ o
  hi : o ≤ 4000000000
  own : wr.ownsRow B 3 1 (.slice (some ⟨B, 0, none⟩) L L) L (iv (out ++ List.replicate (L - k) 0))
  bel : Below B W0 wr

set_option maxRecDepth 100000 in
set_option maxHeartbeats 2000000 in
theorem combine_any (p q : Option Addr) (n c m d : Nat) (xs ys : List Int) (a b : Int) (w : World) (hn : n = xs.length) (hm : m = ys.length) (hnl : n ≤ 100000) (hml : m ≤ 100000) (hp : Has w p xs) (hq : Has w q ys)
    (ha0 : -1000000000 ≤ a) (ha1 : a ≤ 1000000000) (hb0 : -1000000000 ≤ b) (hb1 : b ≤ 1000000000)
    (hxs : ∀ j : Nat, 0 ≤ xs[j]?.getD 0 ∧ xs[j]?.getD 0 < 1000000000) (hys : ∀ j : Nat, 0 ≤ ys[j]?.getD 0 ∧ ys[j]?.getD 0 < 1000000000)
    (V : Nat) (hV : a * pval 1000000000 xs + b * pval 1000000000 ys = V) (hVL : V < 1000000000 ^ (max n m + 1)) :
    Calls Tryz.prog 83 #[.slice p n c, .int .i64 a, .slice q m d, .int .i64 b] w (RetP w (pcM V)) := by
  have hbx : ∀ (z : Int) (x : Int), -1000000000 ≤ z → z ≤ 1000000000 → 0 ≤ x → x < 1000000000 → -1000000000000000000 ≤ z * x ∧ z * x ≤ 1000000000000000000 := fun z x h1 h2 h3 h4 => by
    have g1 := Int.mul_le_mul_of_nonneg_right h1 h3
    have g2 := Int.mul_le_mul_of_nonneg_right h2 h3
    omega
  have hL : ∃ L : Nat, max n m + 1 = L := ⟨_, rfl⟩
  obtain ⟨L, hL⟩ := hL
  have hLi : max (n : Int) (m : Int) + 1 = (L : Int) := by omega
  have hmk : (Instr.makeSlice 52 (.int .i64 (L : Int)) (.int .i64 (L : Int))).run Tryz.prog w = .ok (.slice (some ⟨w.heap.size, 0, none⟩) L L) (w.alloc (.cells (madeCells #[Value.int .i64 0] L) 3)) :=
    make_ints _ Tryz.underlying52 L L (Nat.le_refl _) (by omega) w
  have hz := own_zeros w L (by omega)
  have hbel := (Below.refl w.heap.size w).alloc (Nat.le_refl _) (.cells (madeCells #[Value.int .i64 0] L) 3)
  have HN := Lib.hid hn
  have HM := Lib.hid hm
  have HP := Lib.hid hp
  have HQ := Lib.hid hq
  have HXS := Lib.hid hxs
  have HYS := Lib.hid hys
  have HBX := Lib.hid hbx
  have HV := Lib.hid hV
  have HVL : Hid (V < 1000000000 ^ L) := by show V < _; rw [← hL]; exact hVL
  have HL := Lib.hid hL
  have HZ := Lib.hid hz
  have HBEL := Lib.hid hbel
  have hLb : L ≤ 200000 := by omega
  clear hn hm hp hq hxs hys hbx hV hVL hL hz hbel
  go_enter Tryz.func83, Tryz.ntmps83
  go_wp2
  go_loopw [10, 21] (fun ov iv2 wr => ∃ (k : Nat) (o : Int) (out : List Int), ov = .int .i64 o ∧ iv2 = .int .i64 k ∧ CombAt a b xs ys L k o out w wr w.heap.size) (fun _ iv2 _ => L - (intOf iv2).toNat)
  case atStart => exact ⟨0, 0, [], rfl, rfl, Nat.zero_le _, col_zero _ _, by decide, by decide, HZ.out, HBEL.out⟩
  case round =>
    obtain ⟨k, o, out, rfl, rfl, hC⟩ := hrel
    have HC := Lib.hid hC
    have hkL := hC.le
    have ho0 := hC.lo
    have ho1 := hC.hi
    clear hC HZ HBEL
    by_cases hk : k < L
    · have hk' : (k : Int) < (L : Int) := by omega
      have hx := HXS.out k
      have hy := HYS.out k
      obtain ⟨x, hxd⟩ : ∃ x, xs[k]?.getD 0 = x := ⟨_, rfl⟩
      obtain ⟨y, hyd⟩ : ∃ y, ys[k]?.getD 0 = y := ⟨_, rfl⟩
      rw [hxd] at hx
      rw [hyd] at hy
      have b1 := HBX.out a x ha0 ha1 hx.1 hx.2
      have b2 := HBX.out b y hb0 hb1 hy.1 hy.2
      obtain ⟨ax, hax⟩ : ∃ ax, a * x = ax := ⟨_, rfl⟩
      obtain ⟨bz, hbz⟩ : ∃ bz, b * y = bz := ⟨_, rfl⟩
      have a1 : Calls Tryz.prog 101 #[.slice p n c, .int .i64 k] wr fun e w'' => e = .returned (.int .i64 x) ∧ wr = w'' := by
        have := at_any p n c xs k wr HN.out (by omega) (by omega) (HP.out.below HC.out.bel)
        rwa [hxd] at this
      have a2 : Calls Tryz.prog 101 #[.slice q m d, .int .i64 k] wr fun e w'' => e = .returned (.int .i64 y) ∧ wr = w'' := by
        have := at_any q m d ys k wr HM.out (by omega) (by omega) (HQ.out.below HC.out.bel)
        rwa [hyd] at this
      have hcol : a * x + b * y = colC a b xs ys k := by unfold colC; rw [hxd, hyd]
      have hst := col_step (by decide : (0 : Int) < 1000000000) HC.out.col
      rw [← hcol, hax, hbz] at hst
      rw [hax] at b1
      rw [hbz] at b2
      have w1 : IntKind.i64.wrap (a * x) = ax := by rw [hax]; exact IntWalk.i64_in _ (by omega)
      have w2 : IntKind.i64.wrap (b * y) = bz := by rw [hbz]; exact IntWalk.i64_in _ (by omega)
      have w3 : IntKind.i64.wrap (ax + bz) = ax + bz := IntWalk.i64_in _ (by omega)
      have w4 : IntKind.i64.wrap (ax + bz + o) = o + (ax + bz) := by rw [show ax + bz + o = o + (ax + bz) by omega]; exact IntWalk.i64_in _ (by omega)
      have c9 := cut9_any (o + (ax + bz)) wr (by omega) (by omega)
      have hlo : -4000000000 ≤ (o + (ax + bz)) / 1000000000 := by omega
      have hhi : (o + (ax + bz)) / 1000000000 ≤ 4000000000 := by omega
      have hlen := HC.out.col.len
      have hown := HC.out.own
      obtain ⟨e, he⟩ : ∃ e, L - k = e + 1 := ⟨L - k - 1, by omega⟩
      have ci : wr.cell? ⟨w.heap.size, k, none⟩ = some (.int .i64 0) := by
        rw [hown.cellAt k (by omega), iv, List.getElem?_map, List.getElem?_append_right (by omega), hlen, Nat.sub_self, he]; rfl
      have fi : wr.frozen? ⟨w.heap.size, k, none⟩ = false := hown.frozenAt k
      have hso := (hown.stored k (.int .i64 ((o + (ax + bz)) % 1000000000))).1
      rw [iv_set, he] at hso
      have hsn := set_next out e ((o + (ax + bz)) % 1000000000)
      rw [hlen] at hsn
      rw [hsn, show e = L - (k + 1) by omega] at hso
      have hbl := HC.out.bel.setCell (p := ⟨w.heap.size, k, none⟩) (Nat.le_refl _) (.int .i64 ((o + (ax + bz)) % 1000000000))
      obtain ⟨qq, hqq⟩ : ∃ qq, (o + (ax + bz)) / 1000000000 = qq := ⟨_, rfl⟩
      obtain ⟨rr, hrr⟩ : ∃ rr, (o + (ax + bz)) % 1000000000 = rr := ⟨_, rfl⟩
      rw [hqq, hrr] at c9 hst
      rw [hqq] at hlo hhi
      rw [hrr] at hso hbl
      have A1 := Lib.hid a1
      have A2 := Lib.hid a2
      have C9 := Lib.hid c9
      have HST := Lib.hid hst
      have HSO := Lib.hid hso
      have HBL := Lib.hid hbl
      clear a1 a2 c9 hst hso hbl hcol hax hbz hxd hyd hsn hown he hlen hqq hrr
      go_wp2_with (first | (go_at_call 101; first | (with_reducible refine A1.out.mono ?_; rintro e w1 ⟨rfl, rfl⟩) | (with_reducible refine A2.out.mono ?_; rintro e w1 ⟨rfl, rfl⟩)) | (go_at_call 77; refine C9.out.mono ?_; rintro e w1 ⟨rfl, rfl⟩))
      exact ⟨⟨k + 1, qq, out ++ [rr], rfl, by go_num, by omega, HST.out, hlo, hhi, HSO.out, HBL.out⟩, by simp [intOf]; omega⟩
    · obtain rfl : k = L := by omega
      have hps : psum 1000000000 (colC a b xs ys) k = V := by
        have h1 := psum_add2 1000000000 a b (fun j => xs[j]?.getD 0) (fun j => ys[j]?.getD 0) k
        rw [← pval_psum 1000000000 xs k (by have := HN.out; have := HL.out; omega), ← pval_psum 1000000000 ys k (by have := HM.out; have := HL.out; omega), HV.out] at h1
        exact h1
      have hend := col_end (by decide : (0 : Int) < 1000000000) HC.out.col (by rw [hps]; omega) (by rw [hps]; exact cast_pow9 HVL.out)
      rw [hps] at hend
      have hown := HC.out.own
      rw [Nat.sub_self, List.replicate_zero, List.append_nil] at hown
      obtain ⟨p1, c1, hv1, hnc, hc1, hpn, hh⟩ := has_of_row hown HC.out.col.len
      have hpp : some (⟨w.heap.size, 0, none⟩ : Addr) = p1 ∧ k = c1 := by injection hv1 with h1 _ h3; exact ⟨h1, h3⟩
      obtain ⟨rfl, rfl⟩ := hpp
      have HH := Lib.hid (trim_any (some ⟨w.heap.size, 0, none⟩) k k out wr HC.out.col.len.symm hnc hc1 hpn hh)
      have HE : Hid (trimP out = pcM V) := by show _ = _; exact trim_pcM_of HC.out.col.inr V hend.2
      have HB := Lib.hid HC.out.bel
      clear hown hh hv1 hps hend
      go_wp2_with (go_at_call 78; refine HH.out.mono ?_; rintro e w1 ⟨p2, n2, c2, rfl, hr⟩; have HR := Lib.hid hr; clear hr)
      go_ret
      have h9 := RetP.behind HB.out (⟨p2, n2, c2, rfl, HR.out⟩ : RetP wr (trimP out) (.returned (.slice p2 n2 c2)) w1)
      rw [HE.out] at h9
      exact h9

/-- A slice that holds the pieces of X. -/
structure Sm (w : World) (p : Option Addr) (n c : Nat) (X : Nat) : Prop where
  len : n = (pcM X).length
  cap : n ≤ c
  top : c ≤ 9223372036854775807
  nil : p = none → c = 0
  has : Has w p (pcM X)
theorem Sm.below {w w' : World} {p : Option Addr} {n c X : Nat} (h : Sm w p n c X) (hb : Below w.heap.size w w') : Sm w' p n c X := ⟨h.len, h.cap, h.top, h.nil, h.has.below hb⟩
theorem chainM {P : Program} {K : FuncId} {args : Array Value} {w w0 : World} {X : Nat} (hb : Below w0.heap.size w0 w) (h : Calls P K args w (RetP w (pcM X))) :
    Calls P K args w fun e w' => ∃ p n c, e = .returned (.slice p n c) ∧ Sm w' p n c X ∧ Below w.heap.size w w' ∧ Below w0.heap.size w0 w' :=
  h.mono fun _ _ ⟨p, n, c, e, h1, h2, h3, h4, h5, h6⟩ => ⟨p, n, c, e, ⟨h1, h2, h3, h4, h5⟩, h6, hb.trans (h6.mono hb.size)⟩
theorem combine_sm {p q : Option Addr} {n c m d X Y : Nat} {w : World} (h1 : Sm w p n c X) (h2 : Sm w q m d Y) (hX : (pcM X).length ≤ 100000) (hY : (pcM Y).length ≤ 100000) (a b : Int)
    (ha0 : -1000000000 ≤ a) (ha1 : a ≤ 1000000000) (hb0 : -1000000000 ≤ b) (hb1 : b ≤ 1000000000) (V : Nat) (hV : a * X + b * Y = V) (hVL : V < 1000000000 ^ (max (pcM X).length (pcM Y).length + 1)) :
    Calls Tryz.prog 83 #[.slice p n c, .int .i64 a, .slice q m d, .int .i64 b] w (RetP w (pcM V)) :=
  combine_any p q n c m d _ _ a b w h1.len h2.len (by rw [h1.len]; exact hX) (by rw [h2.len]; exact hY) h1.has h2.has ha0 ha1 hb0 hb1 (pcM_in X) (pcM_in Y) V (by rw [(pcM_isP X).2, (pcM_isP Y).2]; exact hV) (by rw [h1.len, h2.len]; exact hVL)
set_option maxHeartbeats 1000000 in
theorem plus_sm {p q : Option Addr} {n c m d X Y : Nat} {w : World} (h1 : Sm w p n c X) (h2 : Sm w q m d Y) (hX : (pcM X).length ≤ 100000) (hY : (pcM Y).length ≤ 100000) :
    Calls Tryz.prog 55 #[.slice p n c, .slice q m d] w (RetP w (pcM (X + Y))) := by
  have hlt : X + Y < 1000000000 ^ (max (pcM X).length (pcM Y).length + 1) := by
    have a := Nat.lt_of_lt_of_le (pcM_lt X) (Nat.pow_le_pow_right (by decide : 0 < 1000000000) (Nat.le_max_left (pcM X).length (pcM Y).length))
    have b := Nat.lt_of_lt_of_le (pcM_lt Y) (Nat.pow_le_pow_right (by decide : 0 < 1000000000) (Nat.le_max_right (pcM X).length (pcM Y).length))
    rw [Nat.pow_succ]; omega
  have C := Lib.hid (combine_sm h1 h2 hX hY 1 1 (by decide) (by decide) (by decide) (by decide) (X + Y) (by omega) hlt)
  clear h1 h2 hX hY hlt
  go_enter Tryz.func55, Tryz.ntmps55
  go_wp2_with (go_at_call 83; refine C.out.mono ?_; rintro e w1 ⟨p2, n2, c2, rfl, hr⟩; have HR := Lib.hid hr; clear hr)
  go_ret
  exact ⟨p2, n2, c2, rfl, HR.out⟩
set_option maxHeartbeats 1000000 in
theorem less_sm {p q : Option Addr} {n c m d X Y : Nat} {w : World} (h1 : Sm w p n c X) (h2 : Sm w q m d Y) (hX : (pcM X).length ≤ 100000) (hY : (pcM Y).length ≤ 100000) (hle : Y ≤ X) :
    Calls Tryz.prog 56 #[.slice p n c, .slice q m d] w (RetP w (pcM (X - Y))) := by
  have hlt : X - Y < 1000000000 ^ (max (pcM X).length (pcM Y).length + 1) := by
    have a := Nat.lt_of_lt_of_le (pcM_lt X) (Nat.pow_le_pow_right (by decide : 0 < 1000000000) (Nat.le_trans (Nat.le_max_left (pcM X).length (pcM Y).length) (Nat.le_succ _)))
    have := Nat.sub_le X Y
    exact Nat.lt_of_le_of_lt this a
  have C := Lib.hid (combine_sm h1 h2 hX hY 1 (-1) (by decide) (by decide) (by decide) (by decide) (X - Y) (by omega) hlt)
  clear h1 h2 hX hY hlt
  go_enter Tryz.func56, Tryz.ntmps56
  go_wp2_with (go_at_call 83; refine C.out.mono ?_; rintro e w1 ⟨p2, n2, c2, rfl, hr⟩; have HR := Lib.hid hr; clear hr)
  go_ret
  exact ⟨p2, n2, c2, rfl, HR.out⟩
end Go.Proofs.YtkekdcmonenciaaGreatDoor.Kl
