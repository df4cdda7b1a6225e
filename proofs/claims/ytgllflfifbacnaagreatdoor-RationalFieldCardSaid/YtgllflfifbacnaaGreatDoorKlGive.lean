/- Contracts: the reference's give and made. -/
import Derived.Test.YtgllflfifbacnaaGreatDoorKlJoined
import Derived.Test.YtgllflfifbacnaaGreatDoorKlInt
import Derived.Test.YtgllflfifbacnaaGreatDoorKlCanon
import Derived.Lib.ItoaLen
namespace Go.Proofs.YtgllflfifbacnaaGreatDoor.Kl
open Go Go.RowKit

theorem dec_big {u : Nat} (h : ¬ u < 10) : Lib.decDigits u = Lib.decDigits (u / 10) ++ [UInt8.ofNat (48 + u % 10)] := by rw [Lib.decDigits, dif_neg h]
theorem dec_four {u : Nat} (h : 10000 ≤ u) : Lib.decDigits u = Lib.decDigits (u / 10000) ++ [UInt8.ofNat (48 + u / 1000 % 10), UInt8.ofNat (48 + u / 100 % 10), UInt8.ofNat (48 + u / 10 % 10), UInt8.ofNat (48 + u % 10)] := by
  rw [dec_big (u := u) (by omega), dec_big (u := u / 10) (by omega), dec_big (u := u / 10 / 10) (by omega), dec_big (u := u / 10 / 10 / 10) (by omega)]
  rw [show u / 10 / 10 / 10 / 10 = u / 10000 by omega, show u / 10 / 10 / 10 = u / 1000 by omega, show u / 10 / 10 = u / 100 by omega]
  simp
theorem dec_piece (A b : Nat) (hA : 0 < A) (hb : b < 10000) : Lib.decDigits (10000 * A + b) = Lib.decDigits A ++ (Lib.decDigits (10000 + b)).tail := by
  rw [dec_four (u := 10000 * A + b) (by omega), dec_four (u := 10000 + b) (by omega), show (10000 + b) / 10000 = 1 by omega, show (10000 * A + b) / 10000 = A by omega]
  rw [show Lib.decDigits 1 = [49] by rw [Lib.decDigits]; rfl]
  rw [show (10000 * A + b) / 1000 % 10 = (10000 + b) / 1000 % 10 by omega, show (10000 * A + b) / 100 % 10 = (10000 + b) / 100 % 10 by omega, show (10000 * A + b) / 10 % 10 = (10000 + b) / 10 % 10 by omega, show (10000 * A + b) % 10 = (10000 + b) % 10 by omega]
  rfl
theorem itoa_nat (n : Int) (h : 0 ≤ n) : Lib.itoa n = Lib.decDigits n.toNat := by unfold Lib.itoa; rw [if_neg (by omega)]
/-- What give has made of the pieces from place k on. -/
def giveB (xs : List Int) (k : Nat) : ByteArray := strOf (Lib.decDigits (pval 10000 (xs.drop k)).toNat)
theorem drop_isP {B : Int} : ∀ (k : Nat) {xs : List Int}, IsP B xs → IsP B (xs.drop k)
  | 0, _, h => h
  | k + 1, [], h => by simpa using h
  | k + 1, _ :: r, h => drop_isP k (isP_tail h)
theorem give_step {xs : List Int} (h : IsP 10000 xs) {j : Nat} (hj : j + 1 < xs.length) :
    giveB xs (j + 1) ++ (itoaB (10000 + xs[j]?.getD 0)).extract 1 (itoaB (10000 + xs[j]?.getD 0)).size = giveB xs j := by
  have hjl : j < xs.length := by omega
  have hx := h.1 xs[j] (List.getElem_mem hjl)
  have hpos := isP_pos (by decide : (0 : Int) < 10000) (drop_isP (j + 1) h) (by
    intro e; have := congrArg List.length e; rw [List.length_drop] at this; simp at this; omega)
  have e1 : pval 10000 (xs.drop j) = xs[j] + 10000 * pval 10000 (xs.drop (j + 1)) := by rw [← List.getElem_cons_drop hjl]; rfl
  have e2 : xs[j]?.getD 0 = xs[j] := by rw [List.getElem?_eq_getElem hjl]; rfl
  rw [e2]
  unfold giveB
  have e3 : (pval 10000 (xs.drop j)).toNat = 10000 * (pval 10000 (xs.drop (j + 1))).toNat + xs[j].toNat := by rw [e1]; omega
  rw [e3, dec_piece _ _ (by omega) (by omega)]
  have e4 : Lib.itoa (10000 + xs[j]) = Lib.decDigits (10000 + xs[j].toNat) := by
    rw [itoa_nat _ (by omega)]; congr 1; omega
  apply eq_strOf
  have e5 : ((itoaB (10000 + xs[j])).extract 1 (itoaB (10000 + xs[j])).size).data.toList = (Lib.decDigits (10000 + xs[j].toNat)).tail := by
    rw [Lib.extract_to_end, show (itoaB (10000 + xs[j])).data.toList = Lib.itoa (10000 + xs[j]) from rfl, e4, List.drop_one]
  rw [ByteArray.data_append, Array.toList_append, e5]
  rfl
theorem itoa_five (z : Int) (h0 : 0 ≤ z) (h1 : z < 10000) : (itoaB (10000 + z)).size = 5 := by
  unfold itoaB
  rw [strOf_size, itoa_nat _ (by omega), dec_four (by omega), show (10000 + z).toNat / 10000 = 1 by omega, show Lib.decDigits 1 = [49] by rw [Lib.decDigits]; rfl]
  rfl

set_option maxRecDepth 100000 in
set_option maxHeartbeats 2000000 in
theorem give_some (b o n c : Nat) (xs : List Int) (w : World) (E : Env w) (hn : n = xs.length) (hm : n ≤ 100000) (h0 : 0 < n) (hlt : b < w.heap.size) (hx : IsP 10000 xs)
    (hcell : ∀ i, i < xs.length → w.cell? ⟨b, o + i, none⟩ = some (.int .i64 (xs[i]?.getD 0))) :
    Calls Tryz.prog 182 #[.slice (some ⟨b, o, none⟩) n c] w fun e w' => e = .returned (.string (giveB xs 0)) ∧ Below w.heap.size w w' := by
  have HN := Lib.hid hn
  have HX := Lib.hid hx
  have HC := Lib.hid hcell
  have hinr : ∀ i : Nat, 0 ≤ xs[i]?.getD 0 ∧ xs[i]?.getD 0 < 10000 := fun i => by
    by_cases hi : i < xs.length
    · rw [List.getElem?_eq_getElem hi]; exact hx.1 _ (List.getElem_mem hi)
    · rw [List.getElem?_eq_none (by omega)]; decide
  have HI := Lib.hid hinr
  clear hn hx hcell hinr
  obtain ⟨j, rfl⟩ : ∃ j, n = j + 1 := ⟨n - 1, by omega⟩
  have hcj := HC.out j (by have := HN.out; omega)
  have hzj := HI.out j
  have hstart : itoaB (xs[j]?.getD 0) = giveB xs j := by
    have hjl : j < xs.length := by have := HN.out; omega
    unfold giveB itoaB
    rw [itoa_nat _ hzj.1]
    have e : xs.drop j = [xs[j]?.getD 0] := by
      rw [← List.getElem_cons_drop hjl, List.drop_eq_nil_of_le (by have := HN.out; omega), List.getElem?_eq_getElem hjl]; rfl
    rw [e]
    show strOf _ = strOf (Lib.decDigits (xs[j]?.getD 0 + 10000 * 0).toNat)
    simp
  have hss : (giveB xs j).size ≤ 21 := by
    rw [← hstart]; unfold itoaB; rw [strOf_size]; exact Lib.itoa_length_le _ (by omega) (by omega)
  have HS := Lib.hid hstart
  obtain ⟨z, hz⟩ : ∃ z, xs[j]?.getD 0 = z := ⟨_, rfl⟩
  rw [hz] at hcj hzj
  have HZ := Lib.hid hz
  clear hstart hz
  have c1 : ∀ w1, Below w.heap.size w w1 → Calls Tryz.prog 70 #[.int .i64 z] w1 fun e w' => e = .returned (.string (giveB xs j)) ∧ Below w1.heap.size w1 w' := fun w1 hb => by
    rw [← HS.out, HZ.out]; exact itoa_call z (by omega) (by omega) w1 (E.below hb)
  have C1 := Lib.hid c1
  clear c1
  have hb := Below.refl w.heap.size w
  go_enter Tryz.func182, Tryz.ntmps182
  go_wp2_with (go_at_call 70; refine (chain hb (C1.out _ hb)).mono ?_; clear hb; rintro e w1 ⟨rfl, hb⟩)
  go_loopw [3, 4] (fun v iv2 wr => ∃ k : Nat, k ≤ j ∧ iv2 = .int .i64 ((k : Int) - 1) ∧ v = .string (giveB xs k) ∧ (giveB xs k).size ≤ 21 + 4 * (j - k) ∧ Below w.heap.size w wr) (fun _ iv2 _ => (intOf iv2 + 1).toNat)
  case atStart => exact ⟨j, Nat.le_refl _, by go_num, rfl, by omega, hb⟩
  case round =>
    obtain ⟨k, hk, rfl, rfl, hsz, hb⟩ := hrel
    by_cases hk0 : k = 0
    · subst hk0
      go_wp2
      go_ret
      exact ⟨rfl, hb⟩
    · obtain ⟨i, rfl⟩ : ∃ i, k = i + 1 := ⟨k - 1, by omega⟩
      have hci := (hb.cell (p := ⟨b, o + i, none⟩) hlt).trans (HC.out i (by have := HN.out; omega))
      have hzi := HI.out i
      have hst := give_step HX.out (j := i) (by have := HN.out; omega)
      have h5 := itoa_five _ hzi.1 hzi.2
      obtain ⟨y, hy⟩ : ∃ y, xs[i]?.getD 0 = y := ⟨_, rfl⟩
      rw [hy] at hci hzi hst h5
      obtain ⟨X, hX⟩ : ∃ X, itoaB (10000 + y) = X := ⟨_, rfl⟩
      rw [hX] at hst h5
      have c2 : ∀ w1, Below w.heap.size w w1 → Calls Tryz.prog 70 #[.int .i64 (10000 + y)] w1 fun e w' => e = .returned (.string X) ∧ Below w1.heap.size w1 w' := fun w1 hb => by
        rw [← hX]; exact itoa_call (10000 + y) (by omega) (by omega) w1 (E.below hb)
      have C2 := Lib.hid c2
      have HST := Lib.hid hst
      have hsz2 : (giveB xs i).size ≤ 21 + 4 * (j - i) := by
        rw [← hst, ByteArray.size_append, ByteArray.size_extract]; omega
      have hXs : X.size ≤ 5 := by omega
      have hXp : 1 ≤ X.size := by omega
      have H5 := Lib.hid h5
      clear hy hX c2 hst h5
      go_wp2_with (go_at_call 70; refine (chain hb (C2.out _ hb)).mono ?_; clear hb; rintro e w1 ⟨rfl, hb⟩)
      go_roundw
      case rel => exact ⟨i, by omega, rfl, by rw [HST.out], hsz2, hb⟩
      case measure => simp [intOf]

set_option maxRecDepth 100000 in
set_option maxHeartbeats 1000000 in
theorem give_none (p : Option Addr) (c : Nat) (w : World) :
    Calls Tryz.prog 182 #[.slice p 0 c] w fun e w' => e = .returned (.string ⟨#[48]⟩) ∧ Below w.heap.size w w' := by
  go_enter Tryz.func182, Tryz.ntmps182
  go_wp2
  go_ret
  exact ⟨rfl, Below.refl _ _⟩
/-- The decimal text of pieces. -/
theorem give_any (p : Option Addr) (n c N : Nat) (w : World) (E : Env w) (hn : n = (pcN N).length) (hm : n ≤ 100000) (h : Has w p (pcN N)) :
    Calls Tryz.prog 182 #[.slice p n c] w fun e w' => e = .returned (.string (strOf (Lib.decDigits N))) ∧ Below w.heap.size w w' := by
  obtain ⟨hI, hV⟩ := pcN_isP N
  by_cases h0 : N = 0
  · subst h0
    have e : pcN 0 = [] := by rw [pcN, dif_pos rfl]
    rw [e] at hn
    obtain rfl : n = 0 := hn
    rw [decDigits_zero]
    exact give_none p c w
  · have hne : pcN N ≠ [] := by rw [pcN, dif_neg h0]; simp
    rcases h with h | ⟨b, o, rfl, hlt, hcell⟩
    · exact absurd h hne
    · have := give_some b o n c (pcN N) w E hn hm (by rw [hn]; exact List.length_pos_iff.2 hne) hlt hI hcell
      have e : giveB (pcN N) 0 = strOf (Lib.decDigits N) := by unfold giveB; rw [List.drop_zero, hV]; rfl
      rwa [e] at this

/-- The text of a number with its sign. -/
def sgn (b : Bool) (N : Nat) : List UInt8 := if b && decide (0 < N) then 45 :: Lib.decDigits N else Lib.decDigits N
theorem sgn_itoa (x : Int) : sgn (decide (x < 0)) x.natAbs = Lib.itoa x := by
  unfold sgn Lib.itoa
  by_cases h : x < 0
  · have h2 : 0 < x.natAbs := by omega
    rw [decide_eq_true h, decide_eq_true h2, if_pos h]; rfl
  · rw [decide_eq_false h, if_neg h]
    show Lib.decDigits x.natAbs = Lib.decDigits x.toNat
    congr 1; omega
theorem pcN_trim (N : Nat) : trimP (pcN N) = pcN N := by
  obtain ⟨hI, hV⟩ := pcN_isP N
  rw [trim_pcN hI.1, hV]; rfl
theorem dec_len_le (N : Nat) : ∀ k, N < 10 ^ k → 0 < k → (Lib.decDigits N).length ≤ k := by
  induction N using Nat.strongRecOn with
  | _ N ih =>
    intro k h h0
    by_cases hN : N < 10
    · rw [Lib.decDigits, dif_pos hN]; exact h0
    · rw [dec_big hN, List.length_append]
      obtain ⟨m, rfl⟩ : ∃ m, k = m + 1 := ⟨k - 1, by omega⟩
      rw [Nat.pow_succ] at h
      have hm : 0 < m := by
        rcases Nat.eq_zero_or_pos m with e | e
        · subst e; simp at h; omega
        · exact e
      have := ih (N / 10) (by omega) m (by omega) hm
      simp; omega

set_option maxRecDepth 100000 in
set_option maxHeartbeats 1000000 in
theorem made_any (b : Bool) (p : Option Addr) (n c N : Nat) (w : World) (E : Env w) (hn : n = (pcN N).length) (hm : n ≤ 100000) (hnc : n ≤ c) (hc : c ≤ 9223372036854775807) (hpn : p = none → c = 0) (h : Has w p (pcN N)) (hd : (Lib.decDigits N).length ≤ 1000000) :
    Calls Tryz.prog 136 #[.bool b, .slice p n c] w fun e w' => e = .returned (.string (strOf (sgn b N))) ∧ Below w.heap.size w w' := by
  have HC := Lib.hid (cut_any p n c (pcN N) w hn hnc hc hpn h)
  have HN := Lib.hid hn
  clear hn h hpn
  have hg : ∀ (p2 : Option Addr) (n2 c2 : Nat) (w1 : World), RetP w (trimP (pcN N)) (.returned (.slice p2 n2 c2)) w1 → Calls Tryz.prog 182 #[.slice p2 n2 c2] w1 fun e w' => e = .returned (.string (strOf (Lib.decDigits N))) ∧ Below w1.heap.size w1 w' := fun p2 n2 c2 w1 hr => by
    rw [pcN_trim] at hr
    obtain ⟨p3, n3, c3, h1, h2, h3, h4, h5, h6, h7⟩ := hr
    injection h1 with h1
    injection h1 with e1 e2 e3
    subst e1; subst e2; subst e3
    exact give_any p2 n2 c2 N w1 (E.below h7) h2 (by rw [h2, ← HN.out]; exact hm) h6
  have HG := Lib.hid hg
  clear hg
  go_enter Tryz.func136, Tryz.ntmps136
  go_wp2_with (go_at_call 180; refine HC.out.mono ?_; rintro e w1 ⟨p2, n2, c2, rfl, hr⟩; have HR := Lib.hid hr; clear hr; refine Hid.out ?_)
  refine Lib.hid ?_
  have hb := HR.out.2.2.2.2.2
  have hg2 := HG.out p2 n2 c2 w1 ⟨p2, n2, c2, rfl, HR.out⟩
  have hn2 : n2 = (pcN N).length := by have := HR.out.1; rwa [pcN_trim] at this
  have HG2 := Lib.hid hg2
  have HN2 := Lib.hid hn2
  clear hg2
  by_cases h0 : 0 < N
  · have hp : 0 < n2 := by
      rw [hn2]; refine List.length_pos_iff.2 ?_; rw [pcN, dif_neg (by omega)]; simp
    have hp2 : (0 : Int) < (n2 : Int) := by omega
    have hsz : (strOf (Lib.decDigits N)).size ≤ 1000000 := by rw [strOf_size]; exact hd
    clear hn2
    cases b with
    | true =>
      go_wp2_with (go_at_call 182; refine (chain hb HG2.out).mono ?_; clear hb; rintro e w2 ⟨rfl, hb⟩)
      go_ret
      exact ⟨retS (by rw [cat_minus]; unfold sgn; rw [decide_eq_true h0]; rfl), hb⟩
    | false =>
      go_wp2_with (go_at_call 182; refine (chain hb HG2.out).mono ?_; clear hb; rintro e w2 ⟨rfl, hb⟩)
      go_ret
      exact ⟨rfl, hb⟩
  · have hz : N = 0 := by omega
    have hp : n2 = 0 := by rw [hn2, hz, pcN, dif_pos rfl]; rfl
    have HZ := Lib.hid hz
    clear hn2 hz
    subst hp
    cases b with
    | true =>
      go_wp2_with (go_at_call 182; refine (chain hb HG2.out).mono ?_; clear hb; rintro e w2 ⟨rfl, hb⟩)
      go_ret
      exact ⟨retS (by unfold sgn; rw [decide_eq_false h0]; rfl), hb⟩
    | false =>
      go_wp2_with (go_at_call 182; refine (chain hb HG2.out).mono ?_; clear hb; rintro e w2 ⟨rfl, hb⟩)
      go_ret
      exact ⟨rfl, hb⟩
end Go.Proofs.YtgllflfifbacnaaGreatDoor.Kl
