/- The plain mathematics of roots: Newton's steps from above. No program in this text. -/
import Derived.Test.YtgllflfifbacnaaGreatDoorKlSlice
import Derived.Test.YtgllflfifbacnaaGreatDoorKlDivModI
import Derived.Test.YtgllflfifbacnaaGreatDoorKlPower
namespace Go.Proofs.YtgllflfifbacnaaGreatDoor.Kl
open Go

/-- r is the root of X, rounded down. -/
def IsRoot (r X : Nat) : Prop := r * r ≤ X ∧ X < (r + 1) * (r + 1)
theorem sq_lt {a b : Nat} (h : a * a < b * b) : a < b := by
  rcases Nat.lt_or_ge a b with h1 | h1
  · exact h1
  · have := Nat.mul_le_mul h1 h1; omega
theorem IsRoot.unique {r s X : Nat} (h : IsRoot r X) (k : IsRoot s X) : r = s := by
  have h1 := sq_lt (Nat.lt_of_le_of_lt h.1 k.2)
  have h2 := sq_lt (Nat.lt_of_le_of_lt k.1 h.2)
  omega
/-- A step of Newton's stays above. -/
theorem newton_above (g X : Nat) (hg : 1 ≤ g) : X < ((g + X / g) / 2 + 1) * ((g + X / g) / 2 + 1) := by
  have h1 : X < g * (X / g + 1) := by
    have := Nat.lt_mul_div_succ X (show 0 < g by omega); exact this
  obtain ⟨q, hq⟩ : ∃ q, X / g = q := ⟨_, rfl⟩
  rw [hq] at h1 ⊢
  obtain ⟨n, hn⟩ : ∃ n, (g + q) / 2 = n := ⟨_, rfl⟩
  rw [hn]
  have h2 : g + (q + 1) ≤ 2 * (n + 1) := by omega
  have h3 := Nat.mul_le_mul h2 h2
  have h4 : 4 * (g * (q + 1)) ≤ (g + (q + 1)) * (g + (q + 1)) := by
    generalize q + 1 = p
    rcases Nat.le_total g p with h | h
    · obtain ⟨d, rfl⟩ : ∃ d, p = g + d := ⟨p - g, by omega⟩
      have e1 : g * (g + d) = g * g + g * d := Nat.mul_add _ _ _
      have e2 : (g + (g + d)) * (g + (g + d)) = (2 * g) * (2 * g) + (2 * g) * d + (d * (2 * g) + d * d) := by rw [show g + (g + d) = 2 * g + d by omega, Nat.add_mul, Nat.mul_add, Nat.mul_add]
      have e3 : (2 * g) * (2 * g) = 4 * (g * g) := by rw [Nat.mul_mul_mul_comm]
      have e4 : (2 * g) * d = 2 * (g * d) := Nat.mul_assoc _ _ _
      have e5 : d * (2 * g) = 2 * (g * d) := by rw [Nat.mul_comm d, Nat.mul_assoc]
      omega
    · obtain ⟨d, rfl⟩ : ∃ d, g = p + d := ⟨g - p, by omega⟩
      have e1 : (p + d) * p = p * p + p * d := by rw [Nat.add_mul, Nat.mul_comm d p]
      have e2 : (p + d + p) * (p + d + p) = (2 * p) * (2 * p) + (2 * p) * d + (d * (2 * p) + d * d) := by rw [show p + d + p = 2 * p + d by omega, Nat.add_mul, Nat.mul_add, Nat.mul_add]
      have e3 : (2 * p) * (2 * p) = 4 * (p * p) := by rw [Nat.mul_mul_mul_comm]
      have e4 : (2 * p) * d = 2 * (p * d) := Nat.mul_assoc _ _ _
      have e5 : d * (2 * p) = 2 * (p * d) := by rw [Nat.mul_comm d, Nat.mul_assoc]
      omega
  have h5 : 2 * (n + 1) * (2 * (n + 1)) = 4 * ((n + 1) * (n + 1)) := by
    rw [Nat.mul_mul_mul_comm]
  omega
/-- Where a step does not go down, the guess is the root. -/
theorem newton_end (g X : Nat) (ha : X < (g + 1) * (g + 1)) (h : g ≤ (g + X / g) / 2) : IsRoot g X := by
  refine ⟨?_, ha⟩
  have h1 : g ≤ X / g := by omega
  have := Nat.mul_le_mul_left g h1
  exact Nat.le_trans this (Nat.mul_div_le X g)
theorem newton_pos (g X : Nat) (hg : 1 ≤ g) (hX : 1 ≤ X) : 1 ≤ (g + X / g) / 2 := by
  by_cases h : g = 1
  · subst h; rw [Nat.div_one]; omega
  · have := Nat.zero_le (X / g); omega
theorem root_zero : IsRoot 0 0 := ⟨Nat.le_refl _, by decide⟩
/-- The root of the upper part, and 1, is above. -/
theorem upper_above (r X P : Nat) (hP : 1 ≤ P) (h : IsRoot r (X / (P * P))) : X < ((r + 1) * P) * ((r + 1) * P) := by
  have hPP : 0 < P * P := Nat.mul_pos hP hP
  have h1 := Nat.lt_mul_div_succ X hPP
  have h2 : P * P * (X / (P * P) + 1) ≤ P * P * ((r + 1) * (r + 1)) := Nat.mul_le_mul_left _ h.2
  have h3 : ((r + 1) * P) * ((r + 1) * P) = P * P * ((r + 1) * (r + 1)) := by rw [Nat.mul_mul_mul_comm, Nat.mul_comm]
  omega
theorem above_succ {g X : Nat} (h : X < g * g) : X < (g + 1) * (g + 1) := by
  have := Nat.mul_le_mul (Nat.le_succ g) (Nat.le_succ g)
  exact Nat.lt_of_lt_of_le h this
theorem pow_above (n L : Nat) (h : n < 2 ^ L) : n < 2 ^ ((L + 1) / 2) * 2 ^ ((L + 1) / 2) := by
  rw [← Nat.pow_add]
  exact Nat.lt_of_lt_of_le h (Nat.pow_le_pow_right (by decide) (by omega))
end Go.Proofs.YtgllflfifbacnaaGreatDoor.Kl
/- Contracts: the program's square root. -/
namespace Go.Proofs.YtgllflfifbacnaaGreatDoor.Kl
open Go Go.RowKit

/-- The root of a number, rounded down. -/
def rootN : Nat → Nat
  | 0 => 0
  | k + 1 => if (rootN k + 1) * (rootN k + 1) ≤ k + 1 then rootN k + 1 else rootN k
theorem rootN_is : ∀ X, IsRoot (rootN X) X
  | 0 => root_zero
  | k + 1 => by
    have h := rootN_is k
    unfold rootN
    split
    · refine ⟨by assumption, ?_⟩
      have h2 := h.2
      have h3 : (rootN k + 1) * (rootN k + 1) < (rootN k + 1 + 1) * (rootN k + 1 + 1) := Nat.mul_lt_mul'' (by omega) (by omega)
      omega
    · exact ⟨Nat.le_trans h.1 (Nat.le_succ _), by omega⟩
theorem rootN_eq {r X : Nat} (h : IsRoot r X) : rootN X = r := (rootN_is X).unique h

set_option maxHeartbeats 1000000 in
theorem value_sm {p : Option Addr} {n c X : Nat} {w : World} (h : Sm w p n c X) (hl : (pcM X).length ≤ 2) :
    Calls Tryz.prog 168 #[.slice p n c] w fun e w' => e = .returned (.int .i64 X) ∧ w = w' := by
  have a1 : Calls Tryz.prog 199 #[.slice p n c, .int .i64 1] w fun e w' => e = .returned (.int .i64 ((pcM X)[1]?.getD 0)) ∧ w = w' := at_any p n c (pcM X) 1 w h.len (by rw [h.len]; omega) (by decide) h.has
  have a0 : Calls Tryz.prog 199 #[.slice p n c, .int .i64 0] w fun e w' => e = .returned (.int .i64 ((pcM X)[0]?.getD 0)) ∧ w = w' := at_any p n c (pcM X) 0 w h.len (by rw [h.len]; omega) (by decide) h.has
  have e := pval_psum 1000000000 (pcM X) 2 hl
  rw [(pcM_isP X).2] at e
  have e2 : (X : Int) = (pcM X)[0]?.getD 0 + 1000000000 * (pcM X)[1]?.getD 0 := by rw [e]; simp [psum]
  have i1 := pcM_in X 1
  have i0 := pcM_in X 0
  obtain ⟨y1, h1⟩ : ∃ y, (pcM X)[1]?.getD 0 = y := ⟨_, rfl⟩
  obtain ⟨y0, h0⟩ : ∃ y, (pcM X)[0]?.getD 0 = y := ⟨_, rfl⟩
  rw [h1] at a1 i1 e2
  rw [h0] at a0 i0 e2
  have z1 : IntKind.i64.wrap (y1 * 1000000000) = y1 * 1000000000 := IntWalk.i64_in _ (by omega)
  have z2 : IntKind.i64.wrap (y1 * 1000000000 + y0) = (X : Int) := by rw [e2, show y0 + 1000000000 * y1 = y1 * 1000000000 + y0 by omega]; exact IntWalk.i64_in _ (by omega)
  have A1 := Lib.hid a1
  have A0 := Lib.hid a0
  clear a1 a0 e e2 h1 h0 h
  go_enter Tryz.func168, Tryz.ntmps168
  go_wp2_with (go_at_call 199; first | (with_reducible refine A1.out.mono ?_; rintro e w1 ⟨rfl, rfl⟩) | (with_reducible refine A0.out.mono ?_; rintro e w1 ⟨rfl, rfl⟩))
  go_ret
  exact ⟨rfl, rfl⟩

set_option maxRecDepth 100000 in
set_option maxHeartbeats 4000000 in
theorem rootInt_any (n : Nat) (hn : n < 1000000000000000000) (w : World) :
    Calls Tryz.prog 217 #[.int .i64 n] w fun e w' => e = .returned (.int .i64 (rootN n)) ∧ Below w.heap.size w w' := by
  by_cases h0 : n = 0
  · subst h0
    go_enter Tryz.func217, Tryz.ntmps217
    go_wp2
    go_ret
    exact ⟨rfl, Below.refl _ _⟩
  · have hne : ((n : Int) == 0) = false := by rw [beq_eq_false_iff_ne]; omega
    have hn1 : (n : Int) < 1000000000000000000 := by omega
    have c1 : ∀ w, Calls Tryz.prog 230 #[.int .u64 n] w fun e' w' => e' = .returned (.int .i64 (Lib.bitLen n)) ∧ w' = w := fun w => by
      have := Tryz.bits_Len n w (by omega) (by omega); rwa [show ((n : Nat) : Int).toNat = n by omega] at this
    have hL : n < 2 ^ Lib.bitLen n := bitLenAux_lt 64 n (by omega)
    have hL2 := bitLenAux_le 64 n
    change Lib.bitLen n ≤ 64 at hL2
    obtain ⟨L, hLe⟩ : ∃ L, Lib.bitLen n = L := ⟨_, rfl⟩
    rw [hLe] at c1 hL hL2
    have hab := pow_above n L hL
    obtain ⟨K, hK⟩ : ∃ K, (L + 1) / 2 = K := ⟨_, rfl⟩
    rw [hK] at hab
    have hK2 : K ≤ 32 := by omega
    have hpow : 2 ^ K ≤ 2 ^ 32 := Nat.pow_le_pow_right (by decide) hK2
    have hpow1 : 1 ≤ 2 ^ K := Nat.one_le_two_pow
    have z1 : IntKind.i64.wrap ((L : Int) + 1) = ((L + 1 : Nat) : Int) := by rw [Int.natCast_add]; exact IntWalk.i64_in _ (by omega)
    obtain ⟨S1, hS1⟩ : ∃ S1, L + 1 = S1 := ⟨_, rfl⟩
    rw [hS1] at z1 hK
    have z3 : (S1 : Int).tdiv 2 = (K : Int) := by rw [Int.tdiv_eq_ediv_of_nonneg (by omega)]; omega
    obtain ⟨G, hG⟩ : ∃ G : Nat, 2 ^ K = G := ⟨_, rfl⟩
    rw [hG] at hab hpow hpow1
    have hG2 : G ≤ 4294967296 := hpow
    have z4 : wrap64 ((2 : Int) ^ K) = (G : Int) := by
      have e : ((2 : Int) ^ K) = (G : Int) := by rw [← hG, Int.natCast_pow]; rfl
      rw [e]; exact IntWalk.wrap64_in _ ⟨by omega, by omega⟩
    have HAB : Hid (n < (G + 1) * (G + 1)) := Lib.hid (above_succ hab)
    have C1 := Lib.hid c1
    clear c1 hL hLe hK hS1 hab hG hpow
    go_enter Tryz.func217, Tryz.ntmps217
    go_wp2_with (go_at_call 230; refine (C1.out _).mono ?_; rintro e' w2 ⟨rfl, rfl⟩)
    go_loopw [3] (fun gv wr => ∃ g : Nat, gv = .int .i64 g ∧ 1 ≤ g ∧ g ≤ 4294967296 ∧ Hid (n < (g + 1) * (g + 1)) ∧ Below w2.heap.size w2 wr) (fun gv _ => (intOf gv).toNat)
    case atStart => exact ⟨G, by rw [z4], hpow1, hG2, HAB, Below.refl _ _⟩
    case round =>
      obtain ⟨g, rfl, hg1, hg2, HA, hb⟩ := hrel
      obtain ⟨q, hq⟩ : ∃ q, n / g = q := ⟨_, rfl⟩
      have hq1 : q ≤ n := by rw [← hq]; exact Nat.div_le_self _ _
      have hgne : ((g : Int) == 0) = false := by rw [beq_eq_false_iff_ne]; omega
      have y1 : (n : Int).tdiv (g : Int) = (q : Int) := by rw [Int.tdiv_eq_ediv_of_nonneg (by omega), ← Int.natCast_ediv, hq]
      obtain ⟨A1, hA1⟩ : ∃ A1 : Nat, g + q = A1 := ⟨_, rfl⟩
      have y2 : IntKind.i64.wrap ((g : Int) + (q : Int)) = (A1 : Int) := by rw [← hA1, Int.natCast_add]; exact IntWalk.i64_in _ (by omega)
      obtain ⟨M, hM⟩ : ∃ M, A1 / 2 = M := ⟨_, rfl⟩
      have y3 : (A1 : Int).tdiv 2 = (M : Int) := by rw [Int.tdiv_eq_ediv_of_nonneg (by omega)]; omega
      have hMe : (g + n / g) / 2 = M := by rw [hq, hA1, hM]
      have hna := newton_above g n hg1
      have hnp := newton_pos g n hg1 (by omega)
      rw [hMe] at hna hnp
      have hA9 : A1 ≤ 1000000010000000000 := by omega
      have hM9 : M ≤ 1000000010000000000 := by omega
      have HNA := Lib.hid hna
      have HME := Lib.hid hMe
      clear hna hMe hq hA1 hM
      by_cases hge : g ≤ M
      · have hr : rootN n = g := rootN_eq (newton_end g n HA.out (by rw [HME.out]; exact hge))
        have HR := Lib.hid hr
        have hgi : (g : Int) ≤ (M : Int) := by omega
        clear hr
        go_wp2
        go_ret
        exact ⟨retI (by rw [HR.out]), hb⟩
      · have hgi : ¬ (g : Int) ≤ (M : Int) := by omega
        go_wp2
        exact ⟨⟨M, rfl, hnp, by omega, HNA, hb⟩, by simp [intOf]; omega⟩
theorem rootN_le (X : Nat) : rootN X ≤ X := by
  have h := (rootN_is X).1
  rcases Nat.eq_zero_or_pos (rootN X) with h0 | h0
  · omega
  · exact Nat.le_trans (Nat.le_mul_of_pos_left _ h0) h
theorem pcM_drop (X k : Nat) : (pcM X).drop k = pcM (X / 1000000000 ^ k) := by
  have h1 := drop_isP k (pcM_isP X).1
  rw [eq_pcM h1]
  congr 1
  induction k generalizing X with
  | zero => rw [List.drop_zero, (pcM_isP X).2, Nat.pow_zero, Nat.div_one]; exact Int.toNat_natCast _
  | succ k ih =>
    by_cases h0 : X = 0
    · subst h0; rw [pcM_zero, Nat.zero_div]; rfl
    · rw [pcM, dif_neg h0, List.drop_succ_cons]
      have h2 := drop_isP k (pcM_isP (X / 1000000000)).1
      rw [ih (X / 1000000000) h2, Nat.pow_succ, Nat.mul_comm, Nat.div_div_eq_div_mul]
theorem pval_zeros9 (k : Nat) (ys : List Int) : pval 1000000000 (List.replicate k 0 ++ ys) = 1000000000 ^ k * pval 1000000000 ys := by
  rw [pval_append, List.length_replicate]
  have : pval 1000000000 (List.replicate k (0 : Int)) = 0 := by
    induction k with
    | zero => rfl
    | succ k ih => rw [List.replicate_succ]; show (0 : Int) + 1000000000 * _ = 0; rw [ih]; rfl
  rw [this, Int.zero_add]
theorem pcM_shift (r k : Nat) (hr : r ≠ 0) : List.replicate k 0 ++ pcM r = pcM (r * 1000000000 ^ k) := by
  obtain ⟨⟨h1, h2⟩, h3⟩ := pcM_isP r
  have hI : IsP 1000000000 (List.replicate k 0 ++ pcM r) := by
    refine ⟨fun x hx => ?_, ?_⟩
    · rcases List.mem_append.1 hx with h | h
      · rw [List.eq_of_mem_replicate h]; exact ⟨by decide, by decide⟩
      · exact h1 x h
    · have hne : pcM r ≠ [] := fun e => hr (pcM_nil (by rw [e]; rfl))
      rcases snoc_cases (pcM r) with e | ⟨ys, y, e⟩
      · exact absurd e hne
      · rw [e] at h2 ⊢
        rw [← List.append_assoc, List.getLast?_concat]
        rw [List.getLast?_concat] at h2
        exact h2
  rw [eq_pcM hI, pval_zeros9, h3]
  congr 1
  have e : ((1000000000 ^ k * r : Nat) : Int) = (1000000000 : Int) ^ k * (r : Int) := by rw [Int.natCast_mul, Int.natCast_pow]; rfl
  rw [← e, Int.toNat_natCast, Nat.mul_comm]
/-- What a slice of pieces is, as a number. -/
theorem Sm.unique {w : World} {p : Option Addr} {n c X Y : Nat} (h : Sm w p n c X) (k : Sm w p n c Y) : X = Y := by
  have e : pcM X = pcM Y := by
    rcases h.has with h1 | ⟨b, o, hp, _, hc⟩
    · have h2 := h.len
      have h3 := k.len
      rw [h1] at h2
      have : (pcM Y).length = 0 := by rw [← h3, h2]; rfl
      rw [h1, List.length_eq_zero_iff.1 this]
    · rcases k.has with k1 | ⟨b', o', hp', _, hc'⟩
      · have h2 := h.len
        have h3 := k.len
        rw [k1] at h3
        have : (pcM X).length = 0 := by rw [← h2, h3]; rfl
        rw [k1, List.length_eq_zero_iff.1 this]
      · rw [hp] at hp'
        injection hp' with hp'
        injection hp' with e1 e2
        subst e1 e2
        have hl : (pcM X).length = (pcM Y).length := by rw [← h.len, ← k.len]
        refine List.ext_getElem hl fun i h1 h2 => ?_
        have a := hc i h1
        rw [hc' i h2] at a
        injection a with a
        injection a with _ a
        rw [List.getElem?_eq_getElem h1, List.getElem?_eq_getElem h2] at a
        exact a.symm
  have h1 := (pcM_isP X).2
  rw [e, (pcM_isP Y).2] at h1
  omega
theorem sm_val {w : World} {p : Option Addr} {n c X : Nat} (h : Sm w p n c X) : Classical.epsilon (fun g : Nat => ∃ p' n' c', Value.slice p n c = Value.slice p' n' c' ∧ Sm w p' n' c' g) = X := by
  have := Classical.epsilon_spec (p := fun g : Nat => ∃ p' n' c', Value.slice p n c = Value.slice p' n' c' ∧ Sm w p' n' c' g) ⟨X, p, n, c, rfl, h⟩
  obtain ⟨p', n', c', e, h2⟩ := this
  injection e with e1 e2 e3
  subst e1 e2 e3
  exact h2.unique h
set_option maxRecDepth 100000 in
set_option maxHeartbeats 1000000 in
theorem root_short {p : Option Addr} {n c X : Nat} {w : World} (h : Sm w p n c X) (hl : (pcM X).length ≤ 2) :
    Calls Tryz.prog 195 #[.slice p n c] w (RetP w (pcM (rootN X))) := by
  have hX : X < 1000000000000000000 := by
    have h1 := pcM_lt X
    have h2 : 1000000000 ^ (pcM X).length ≤ 1000000000 ^ 2 := Nat.pow_le_pow_right (by decide) hl
    exact Nat.lt_of_lt_of_le h1 h2
  have hr9 : rootN X < 1000000000 := sq_lt (Nat.lt_of_le_of_lt (rootN_is X).1 hX)
  have hn : (n : Int) ≤ 2 := by have := h.len; omega
  have C1 := Lib.hid (value_sm h hl)
  have C2 := Lib.hid (fun w => rootInt_any X hX w)
  have HTS := Lib.hid (trim_small (rootN X) hr9)
  obtain ⟨R, hR⟩ : ∃ R, rootN X = R := ⟨_, rfl⟩
  rw [hR] at C2 HTS ⊢
  clear h hX hR hr9 hl
  have hb := Below.refl w.heap.size w
  go_enter Tryz.func195, Tryz.ntmps195
  go_wp2_with (first | (go_at_call 168; refine C1.out.mono ?_; rintro e w1 ⟨rfl, rfl⟩) | (go_at_call 217; refine (chain hb (C2.out _)).mono ?_; clear hb; rintro e w2 ⟨rfl, hb⟩; refine Hid.out ?_))
  refine Lib.hid ?_
  have hh : Has (w2.alloc (.cells #[.int .i64 R] 3)) (some ⟨w2.heap.size, 0, none⟩) [(R : Int)] := by
    refine Or.inr ⟨w2.heap.size, 0, rfl, by simp, fun i hi => ?_⟩
    obtain rfl : i = 0 := by simpa using hi
    rw [World.cell?_alloc_new]; rfl
  have ht := trim_any (some ⟨w2.heap.size, 0, none⟩) 1 1 [(R : Int)] _ rfl (Nat.le_refl _) (by omega) (fun h => by cases h) hh
  rw [HTS.out] at ht
  have HT := Lib.hid ht
  have HBA := Lib.hid (hb.alloc hb.size (.cells #[.int .i64 R] 3))
  clear hh ht hb
  go_wp2_with (go_at_call 169; refine HT.out.mono ?_; rintro e w3 ⟨p3, n3, c3, rfl, hr3⟩; have HR3 := Lib.hid hr3; clear hr3)
  go_ret
  exact RetP.behind HBA.out (⟨p3, n3, c3, rfl, HR3.out⟩ : RetP _ _ (.returned (.slice p3 n3 c3)) w3)
set_option maxRecDepth 100000 in
set_option maxHeartbeats 4000000 in
theorem root_long {p : Option Addr} {n c X : Nat} {w : World} (h : Sm w p n c X) (hl : 3 ≤ (pcM X).length) (hl9 : (pcM X).length ≤ 40000)
    (ih : ∀ (p' : Option Addr) (n' c' X' : Nat) (w' : World), Sm w' p' n' c' X' → (pcM X').length < (pcM X).length → Calls Tryz.prog 195 #[.slice p' n' c'] w' (RetP w' (pcM (rootN X')))) :
    Calls Tryz.prog 195 #[.slice p n c] w (RetP w (pcM (rootN X))) := by
  obtain ⟨i0, hi, hi0, hi1, hi2⟩ := info_parts info3
  have hn := h.len
  have hcap := h.cap
  have htop := h.top
  have hn3 : 3 ≤ n := by omega
  have hn9 : n ≤ 40000 := by omega
  have hnn : ¬ (n : Int) ≤ 2 := by omega
  obtain ⟨b, o, rfl, hb0, hc⟩ : ∃ b o, p = some ⟨b, o, none⟩ ∧ b < w.heap.size ∧ ∀ i, i < (pcM X).length → w.cell? ⟨b, o + i, none⟩ = some (.int .i64 ((pcM X)[i]?.getD 0)) := by
    rcases h.has with h1 | h1
    · rw [h1] at hl; simp at hl
    · exact h1
  obtain ⟨lo, hlo⟩ : ∃ lo : Nat, max 1 (n / 4) = lo := ⟨_, rfl⟩
  have hlo1 : 1 ≤ lo := by omega
  have hlo2 : 2 * lo < n := by omega
  have z1 : (n : Int).tdiv 4 = ((n / 4 : Nat) : Int) := by rw [Int.tdiv_eq_ediv_of_nonneg (by omega)]; omega
  have z2 : max (1 : Int) ((n / 4 : Nat) : Int) = (lo : Int) := by omega
  obtain ⟨n4, hn4⟩ : ∃ n4, n / 4 = n4 := ⟨_, rfl⟩
  have hn49 : n4 ≤ 10000 := by omega
  rw [hn4] at z1 z2
  obtain ⟨l2, hl2⟩ : ∃ l2, 2 * lo = l2 := ⟨_, rfl⟩
  have z3 : IntKind.i64.wrap (2 * (lo : Int)) = (l2 : Int) := by rw [← hl2, Int.natCast_mul]; exact IntWalk.i64_in _ (by omega)
  obtain ⟨P, hP⟩ : ∃ P, 1000000000 ^ lo = P := ⟨_, rfl⟩
  have hP1 : 1 ≤ P := by rw [← hP]; exact Nat.one_le_pow _ _ (by decide)
  have hPP : 1000000000 ^ l2 = P * P := by rw [← hl2, ← hP, ← Nat.pow_add]; congr 1; omega
  have hdrop := pcM_drop X l2
  rw [hPP] at hdrop
  obtain ⟨X2, hX2⟩ : ∃ X2, X / (P * P) = X2 := ⟨_, rfl⟩
  rw [hX2] at hdrop
  have hlen2 : (pcM X2).length = n - l2 := by rw [← hdrop, List.length_drop, hn]
  have hs2 : Sm w (some ⟨b, o + l2, none⟩) (n - l2) (c - l2) X2 := by
    refine ⟨hlen2.symm, by omega, by omega, (fun h => by cases h), ?_⟩
    refine Or.inr ⟨b, o + l2, rfl, hb0, fun i hi => ?_⟩
    have h1 := hc (l2 + i) (by omega)
    rw [← Nat.add_assoc] at h1
    rw [h1, ← hdrop, List.getElem?_drop]
  have cih := ih _ _ _ X2 w hs2 (by omega)
  obtain ⟨r, hr⟩ : ∃ r, rootN X2 = r := ⟨_, rfl⟩
  rw [hr] at cih
  have hir : IsRoot r X2 := by rw [← hr]; exact rootN_is X2
  have hab := upper_above r X P hP1 (by rw [hX2]; exact hir)
  have hrl : (pcM r).length ≤ n := by
    have h1 := pcM_len_mono (show r ≤ X2 by rw [← hr]; exact rootN_le X2)
    omega
  have hr1l : (pcM (r + 1)).length ≤ n + 1 := by
    have h3 : (pcM (r + 1)).length ≤ (pcM r).length + 1 := pcM_len _ _ (by have := pcM_lt r; rw [Nat.pow_succ]; omega)
    omega
  have hsh := pcM_shift (r + 1) lo (by omega)
  rw [hP] at hsh
  obtain ⟨G, hG⟩ : ∃ G, (r + 1) * P = G := ⟨_, rfl⟩
  rw [hG] at hsh hab
  have hG1 : 1 ≤ G := by rw [← hG]; exact Nat.mul_pos (by omega) hP1
  have hGl : (pcM G).length ≤ 2 * n + 1 := by rw [← hsh, List.length_append, List.length_replicate]; omega
  have hmk : ∀ w, (Instr.makeSlice 120 (.int .i64 (lo : Int)) (.int .i64 (lo : Int))).run Tryz.prog w = .ok (.slice (some ⟨w.heap.size, 0, none⟩) lo lo) (w.alloc (.cells (madeCells #[Value.int .i64 0] lo) 3)) := fun w =>
    make_ints _ Tryz.underlying120 lo lo (Nat.le_refl _) (by omega) w
  have hsub : (l2 : Int) ≤ (n : Int) := by omega
  have hsubc : (l2 : Int) ≤ (c : Int) := by omega
  have hl2c : l2 < c := by omega
  have hl2d : c - l2 ≠ 0 := by omega
  have hl2e : ¬ (l2 : Int) = (c : Int) := by omega
  have hl2f : ¬ l2 = c := by omega
  have H := Lib.hid h
  have CIH := Lib.hid cih
  have HSH := Lib.hid hsh
  have HAB := Lib.hid (above_succ hab)
  have HRL : Hid ((pcM r).length ≤ 100000) := Lib.hid (by omega)
  have HRL1 : Hid ((pcM (r + 1)).length ≤ 50000) := Lib.hid (by omega)
  have HGL : Hid ((pcM G).length ≤ 80001) := Lib.hid (by omega)
  have HXL : Hid ((pcM X).length ≤ 40000) := Lib.hid hl9
  clear h hn hl hl9 ih hc hlo hP hPP hdrop hX2 hlen2 hs2 cih hr hir hab hrl hr1l hsh hG hGl hl2 hn4
  have hb := Below.refl w.heap.size w
  go_enter Tryz.func195, Tryz.ntmps195
  obtain ⟨mv, hmv⟩ : ∃ mv : Value → World → Nat, ∀ w p n c X, Sm w p n c X → mv (.slice p n c) w = X :=
    ⟨fun v w => Classical.epsilon (fun g : Nat => ∃ p' n' c', v = Value.slice p' n' c' ∧ Sm w p' n' c' g), fun _ _ _ _ _ h => sm_val h⟩
  have HMV := Lib.hid hmv
  clear hmv
  go_upto_region 5 with (first | (go_at_call 195; refine (chainM hb CIH.out).mono ?_; clear hb; rintro e w1 ⟨p1, n1, c1, rfl, hs1, hl1, hb⟩; have HS1 := Lib.hid hs1; clear hs1 hl1) | (go_at_call 177; refine (chainM (hb.alloc hb.size _) (plus_sm (HS1.out.below ((Below.refl _ _).alloc (Nat.le_refl _) _)) (sm_one w1) HRL.out (by rw [pcM_small 1 (by decide) (by decide)]; decide))).mono ?_; clear hb; rintro e w2 ⟨p2, n2, c2, rfl, hs2, hl2, hb⟩; have HS2 := Lib.hid hs2; clear hs2 hl2))
  obtain ⟨b2, o2, rfl, hlt2, hc2⟩ : ∃ b2 o2, p2 = some ⟨b2, o2, none⟩ ∧ b2 < w2.heap.size ∧ ∀ i, i < (pcM (r + 1)).length → w2.cell? ⟨b2, o2 + i, none⟩ = some (.int .i64 ((pcM (r + 1))[i]?.getD 0)) := by
    rcases HS2.out.has with h1 | h1
    · have := pcM_nil (show (pcM (r + 1)).length = 0 by rw [h1]; rfl); omega
    · exact h1
  have hn2 := HS2.out.len
  have hn29 : n2 ≤ 50000 := by rw [hn2]; exact HRL1.out
  have hmk2 := hmk w2
  have hown0 := own_zeros w2 lo (by omega)
  have HOWN0 := Lib.hid hown0
  have HN2 := Lib.hid hn2
  have HC2 := Lib.hid hc2
  have HB2 := Lib.hid hb
  clear hown0 hn2 hc2 hmk
  go_wp2_with (at_builtin; refine wpList_append_own _ rfl _ _ 120 rfl w2.heap.size 3 i0 (.int .i64 0) 1 8 Tryz.underlying120 hi hi0 hi1 hi2 rfl (by decide) _ _ _ rfl HOWN0.out ⟨b2, o2, none⟩ n2 c2 (iv (pcM (r + 1))) rfl ?hl ?hnews ?h1 ?c3 ?c4 ?c5 ?_)
  case hl => rw [iv, List.length_map, ← HN2.out]; omega
  case hnews =>
    intro j u hu
    rw [iv, List.getElem?_map] at hu
    by_cases hj : j < (pcM (r + 1)).length
    · rw [List.getElem?_eq_getElem hj] at hu
      have hc := HC2.out j hj
      rw [List.getElem?_eq_getElem hj] at hc
      rw [World.cell?_alloc_lt _ _ _ (by rw [Go.WideShapes.add_plain]; exact hlt2), Go.WideShapes.add_plain, hc]
      exact hu
    · rw [List.getElem?_eq_none (by omega)] at hu; cases hu
  case h1 => intro u hu; simp [iv] at hu; obtain ⟨x, _, rfl⟩ := hu; simp [Value.oneCell']
  case c3 => unfold maxLen; omega
  case c4 => omega
  case c5 => simp only [World.size_alloc]; omega
  intro v' w3 hown3 hgrow hnil
  have he3 : iv (List.replicate lo 0) ++ iv (pcM (r + 1)) = iv (pcM G) := by rw [← HSH.out]; unfold iv; rw [List.map_append]
  rw [he3] at hown3
  have hl3 : (pcM G).length = lo + n2 := by rw [← HSH.out, List.length_append, List.length_replicate, HN2.out]
  have hb3 := (hb.alloc hb.size _).grown hgrow (by simp only [World.size_alloc]; have := hb.size; omega) (fun k hk => Nat.le_trans hb.size (own_ge3 HOWN0.out k hk))
  obtain ⟨p3, c3, rfl, hnc3, hc3, hpn3, hh3⟩ := has_of_row hown3 hl3
  have HS3 := Lib.hid (show Sm w3 p3 (lo + n2) c3 G from ⟨hl3.symm, hnc3, hc3, hpn3, hh3⟩)
  have HB3 := Lib.hid hb3
  clear hown3 hgrow hnil he3 hl3 hb3 hh3 hb hnc3 hc3 hpn3
  go_wp2
  go_loopw [5] (fun gv wr => ∃ (g : Nat) (p' : Option Addr) (n' c' : Nat), gv = .slice p' n' c' ∧ Hid (Sm wr p' n' c' g) ∧ 1 ≤ g ∧ Hid (X < (g + 1) * (g + 1)) ∧ Hid ((pcM g).length ≤ 80001) ∧ Below w.heap.size w wr) (fun gv wr => mv gv wr)
  case atStart => exact ⟨G, p3, _, c3, rfl, HS3, hG1, HAB, HGL, HB3.out⟩
  case round =>
    obtain ⟨g, p', n', c', rfl, HG, hg1, HA, HGl, hb⟩ := hrel
    have hxg := Nat.div_le_self X g
    have hlq := pcM_len_mono hxg
    have hls : (pcM (g + X / g)).length ≤ 80002 := by
      refine Nat.le_trans (pcM_len _ (max (pcM g).length (pcM (X / g)).length + 1) ?_) ?_
      · have a := Nat.lt_of_lt_of_le (pcM_lt g) (Nat.pow_le_pow_right (by decide : 0 < 1000000000) (Nat.le_max_left (pcM g).length (pcM (X / g)).length))
        have b := Nat.lt_of_lt_of_le (pcM_lt (X / g)) (Nat.pow_le_pow_right (by decide : 0 < 1000000000) (Nat.le_max_right (pcM g).length (pcM (X / g)).length))
        rw [Nat.pow_succ]; omega
      · have h1 := HGl.out
        have h2 := HXL.out
        exact Nat.succ_le_succ (Nat.max_le.2 ⟨h1, by omega⟩)
    have hln := pcM_len_mono (Nat.div_le_self (g + X / g) 2)
    have hna := newton_above g X hg1
    have LQ : Hid ((pcM (X / g)).length ≤ 100000) := Lib.hid (by have := HXL.out; omega)
    have LG : Hid ((pcM g).length ≤ 100000) := Lib.hid (by have := HGl.out; omega)
    have LG9 : Hid ((pcM g).length ≤ 90000) := Lib.hid (by have := HGl.out; omega)
    have LX9 : Hid ((pcM X).length ≤ 90000) := Lib.hid (by have := HXL.out; omega)
    have LS : Hid ((pcM (g + X / g)).length ≤ 100000) := Lib.hid (by omega)
    have LN : Hid ((pcM ((g + X / g) / 2)).length ≤ 100000) := Lib.hid (by omega)
    have hg0 : g ≠ 0 := by omega
    have HNE : Hid ((g + X / g) / 2 = 0 → False) := Lib.hid (fun e => by
      have := newton_pos g X hg1 (by
        rcases Nat.eq_zero_or_pos X with h0 | h0
        · exfalso
          have := H.out.len
          rw [h0, pcM_zero] at this
          rw [this] at hn3
          exact absurd hn3 (by decide)
        · exact h0)
      omega)
    have hv := HMV.out _ _ _ _ _ HG.out
    have HV := Lib.hid hv
    obtain ⟨Q, hQ⟩ : ∃ Q, X / g = Q := ⟨_, rfl⟩
    have HQE := Lib.hid hQ
    rw [hQ] at hna LQ LS LN HNE
    obtain ⟨M, hM⟩ : ∃ M, (g + Q) / 2 = M := ⟨_, rfl⟩
    have HME := Lib.hid hM
    rw [hM] at hna LN HNE
    obtain ⟨z, hz⟩ : ∃ z, Lib.compareInt M g = z := ⟨_, rfl⟩
    have cdv : ∀ w, Sm w (some ⟨b, o, none⟩) n c X → Sm w p' n' c' g → Calls Tryz.prog 166 #[.slice (some ⟨b, o, none⟩) n c, .slice p' n' c'] w (RetQ w Q (X % g)) := fun w h1 h2 => by
      have := divide_sm h1 h2 LX9.out LG9.out hg0
      rwa [hQ] at this
    have cds : ∀ w p5 n5 c5, Sm w p5 n5 c5 (g + Q) → Calls Tryz.prog 201 #[.slice p5 n5 c5, .int .i64 2] w fun e w' => ∃ p2 n2 c2, e = .returned (.tuple #[.slice p2 n2 c2, .int .i64 (((g + Q) % 2 : Nat) : Int)]) ∧ Sm w' p2 n2 c2 M ∧ Below w.heap.size w w' := fun w p5 n5 c5 h => by
      have := divS_sm h LS.out 2 (by decide) (by decide)
      rwa [hM] at this
    have cpm : ∀ w p5 n5 c5, Sm w p5 n5 c5 M → Sm w p' n' c' g → Calls Tryz.prog 164 #[.slice p5 n5 c5, .slice p' n' c'] w fun e w' => e = .returned (.int .i64 z) ∧ Below w.heap.size w w' := fun w p5 n5 c5 h1 h2 => by
      have := pcmp_sm h1 h2 LN.out LG.out
      rwa [hz] at this
    have CDV := Lib.hid cdv
    have CDS := Lib.hid cds
    have CPM := Lib.hid cpm
    have HNA := Lib.hid hna
    have HZ := Lib.hid hz
    clear hxg hlq hls hln hna hv hQ hM hz cdv cds cpm hg0
    by_cases hge : g ≤ M
    · have hz0 : 0 ≤ z := by
        rw [← HZ.out]
        rcases Nat.lt_or_eq_of_le hge with h | h
        · rw [cI_gt (by omega)]; decide
        · rw [cI_eq (by omega)]; decide
      have hr : rootN X = g := rootN_eq (newton_end g X HA.out (by rw [HQE.out, HME.out]; exact hge))
      have HR := Lib.hid hr
      clear hr
      go_wp2_with (first | (go_at_call 166; refine (chainQ hb (CDV.out _ (H.out.below hb) HG.out)).mono ?_; clear hb; rintro e w5 ⟨p5, n5, c5, p6, n6, c6, rfl, hs5, hs6, hl5, hb⟩; have HS5 := Lib.hid hs5; have HG5 := Lib.hid (HG.out.below hl5); clear hs5 hs6 hl5) | (go_at_call 177; refine (chainM hb (plus_sm HG5.out HS5.out LG.out LQ.out)).mono ?_; clear hb; rintro e w7 ⟨p7, n7, c7, rfl, hs7, hl7, hb⟩; have HS7 := Lib.hid hs7; have HG7 := Lib.hid (HG5.out.below hl7); clear hs7 hl7) | (go_at_call 201; refine (CDS.out _ _ _ _ HS7.out).mono ?_; rintro e w8 ⟨p8, n8, c8, rfl, hs8, hl8⟩; have HS8 := Lib.hid hs8; have HG8 := Lib.hid (HG7.out.below hl8); have hb8 := hb.trans (hl8.mono hb.size); clear hs8 hl8 hb) | (go_at_call 164; refine (CPM.out _ _ _ _ HS8.out HG8.out).mono ?_; rintro e w9 ⟨rfl, hl9⟩; have HG9 := Lib.hid (HG8.out.below hl9); have hb9 := hb8.trans (hl9.mono hb8.size); clear hl9))
      go_ret
      have h9 := HG9.out
      exact ⟨p', n', c', rfl, by rw [HR.out]; exact h9.len, h9.cap, h9.top, h9.nil, by rw [HR.out]; exact h9.has, hb9⟩
    · have hz0 : ¬ 0 ≤ z := by
        rw [← HZ.out, cI_lt (by omega)]; decide
      have hM1 : 1 ≤ M := by
        rcases Nat.eq_zero_or_pos M with h0 | h0
        · exact absurd (HNE.out h0) (fun h => h)
        · exact h0
      have hMl : (pcM M).length ≤ 80001 := by have h1 := pcM_len_mono (show M ≤ g by omega); have := HGl.out; omega
      have HMl := Lib.hid hMl
      have HNA2 : Hid (X < (M + 1) * (M + 1)) := Lib.hid HNA.out
      clear hMl
      go_wp2_with (first | (go_at_call 166; refine (chainQ hb (CDV.out _ (H.out.below hb) HG.out)).mono ?_; clear hb; rintro e w5 ⟨p5, n5, c5, p6, n6, c6, rfl, hs5, hs6, hl5, hb⟩; have HS5 := Lib.hid hs5; have HG5 := Lib.hid (HG.out.below hl5); clear hs5 hs6 hl5) | (go_at_call 177; refine (chainM hb (plus_sm HG5.out HS5.out LG.out LQ.out)).mono ?_; clear hb; rintro e w7 ⟨p7, n7, c7, rfl, hs7, hl7, hb⟩; have HS7 := Lib.hid hs7; have HG7 := Lib.hid (HG5.out.below hl7); clear hs7 hl7) | (go_at_call 201; refine (CDS.out _ _ _ _ HS7.out).mono ?_; rintro e w8 ⟨p8, n8, c8, rfl, hs8, hl8⟩; have HS8 := Lib.hid hs8; have HG8 := Lib.hid (HG7.out.below hl8); have hb8 := hb.trans (hl8.mono hb.size); clear hs8 hl8 hb) | (go_at_call 164; refine (CPM.out _ _ _ _ HS8.out HG8.out).mono ?_; rintro e w9 ⟨rfl, hl9⟩; have HS9 := Lib.hid (HS8.out.below hl9); have hb9 := hb8.trans (hl9.mono hb8.size); clear hl9))
      have hvn := HMV.out _ _ _ _ _ HS9.out
      exact ⟨⟨M, p8, n8, c8, rfl, HS9, hM1, HNA2, HMl, hb9⟩, by rw [hvn, HV.out]; omega⟩
theorem root_sm : ∀ (N : Nat) (p : Option Addr) (n c X : Nat) (w : World), Sm w p n c X → (pcM X).length ≤ N → N ≤ 40000 → Calls Tryz.prog 195 #[.slice p n c] w (RetP w (pcM (rootN X)))
  | 0, _, _, _, _, _, h, hl, _ => root_short h (by omega)
  | N + 1, _, _, _, X, _, h, hl, hN => by
    by_cases hs : (pcM X).length ≤ 2
    · exact root_short h hs
    · exact root_long h (by omega) (by omega) fun p' n' c' X' w' h' hl' => root_sm N p' n' c' X' w' h' (by omega) (by omega)
theorem retSI2 {k : IntKind} {a b : ByteArray} {x y : Int} (h : a = b) (g : x = y) : Ending.returned (.tuple #[.string a, .int k x]) = .returned (.tuple #[.string b, .int k y]) := by rw [h, g]
set_option maxRecDepth 100000 in
set_option maxHeartbeats 2000000 in
theorem root_neg (x : Int) (w : World) (h : x < 0) :
    Calls Tryz.prog 158 #[.string (itoaB x)] w fun e w' => e = .returned (.tuple #[.string ⟨#[]⟩, .int .i64 3]) ∧ Below w.heap.size w w' := by
  have s1 := fun w => sign_any x w
  have hs : x.sign = -1 := Int.sign_eq_neg_one_of_neg h
  simp only [hs] at s1
  obtain ⟨a, ha⟩ : ∃ a, itoaB x = a := ⟨_, rfl⟩
  rw [ha] at s1 ⊢
  have S1 := Lib.hid s1
  clear s1 hs ha h
  have hb := Below.refl w.heap.size w
  go_enter Tryz.func158, Tryz.ntmps158
  go_wp2_with (go_at_call 73; refine (chain hb (S1.out _)).mono ?_; clear hb; rintro e w1 ⟨rfl, hb⟩)
  go_ret2
  exact ⟨retSI2 rfl rfl, hb⟩
set_option maxRecDepth 100000 in
set_option maxHeartbeats 2000000 in
theorem root_any (x : Nat) (w : World) (E : Env w) (hx : dlen x ≤ 40000) :
    Calls Tryz.prog 158 #[.string (itoaB x)] w fun e w' => e = .returned (.tuple #[.string (itoaB (rootN x)), .int .i64 0]) ∧ Below w.heap.size w w' := by
  have s1 := fun w => sign_any (x : Int) w
  have hs : ¬ (x : Int).sign < 0 := by
    rcases Nat.eq_zero_or_pos x with h | h
    · subst h; decide
    · rw [Int.sign_eq_one_of_pos (by omega)]; decide
  obtain ⟨sg, hsg⟩ : ∃ sg, (x : Int).sign = sg := ⟨_, rfl⟩
  rw [hsg] at hs
  simp only [hsg] at s1
  have r1 : ∀ w, Calls Tryz.prog 124 #[.string (itoaB x)] w (RetN w x) := fun w => read_itoa x w (by omega)
  have hfld : ∀ (b : Bool) (p : Option Addr) (n c : Nat) (w : World), (Instr.field 122 (.agg #[.bool b, .slice p n c]) 1).run Tryz.prog w = .ok (.slice p n c) w := fun b p n c w => by kernel_rfl
  have hxl : (pcM x).length ≤ 40000 := by unfold dlen at hx; exact pcM_len_dec x 40000 hx
  have hrl : (pcM (rootN x)).length ≤ 100000 := by have := pcM_len_mono (rootN_le x); omega
  have HXL := Lib.hid hxl
  have HRL := Lib.hid hrl
  obtain ⟨a, ha⟩ : ∃ a, itoaB (x : Int) = a := ⟨_, rfl⟩
  obtain ⟨r, hr⟩ : ∃ r, itoaB ((rootN x : Nat) : Int) = r := ⟨_, rfl⟩
  have HR := Lib.hid hr
  rw [ha] at s1 r1
  rw [ha, hr]
  have S1 := Lib.hid s1
  have R1 := Lib.hid r1
  clear s1 r1 hsg ha hr hx hxl hrl
  have hb := Below.refl w.heap.size w
  go_enter Tryz.func158, Tryz.ntmps158
  go_wp2_with (first | (go_at_call 73; refine (chain hb (S1.out _)).mono ?_; clear hb; rintro e w1 ⟨rfl, hb⟩) | (go_at_call 124; refine (chainN hb (R1.out _)).mono ?_; clear hb; rintro e w1 ⟨b1, p1, n1, c1, rfl, hs1, hb⟩) | (go_at_call 195; refine (chainM hb (root_sm 40000 _ _ _ x _ hs1.out.1 HXL.out (Nat.le_refl _))).mono ?_; clear hb; rintro e w2 ⟨p2, n2, c2, rfl, hs2, hl2, hb⟩; have HS2 := Lib.hid hs2; clear hs2 hl2) | (go_at_call 126; refine (chain hb (text_z (E.below hb) HS2.out (sgI_f _) HRL.out)).mono ?_; clear hb; rintro e w3 ⟨rfl, hb⟩))
  go_ret2
  exact ⟨retSI2 HR.out rfl, hb⟩
theorem dlen_nat_le (N : Nat) (z : Int) (K : Nat) (hK : 0 < K) (h : N ≤ z.natAbs) (hz : dlen z ≤ K) : dlen (N : Int) ≤ K := by
  unfold dlen at *
  exact dec_len_le _ _ (Nat.lt_of_le_of_lt h (Nat.lt_of_lt_of_le (dig_lt z.natAbs) (Nat.pow_le_pow_right (by decide) hz))) hK
end Go.Proofs.YtgllflfifbacnaaGreatDoor.Kl
