import Derived.Test.YtpphjnekkjeacaaGreatDoorKlSRootsSRZ
/- The texts of layer 3: the reference's, and the law. -/
namespace Go.Proofs.YtpphjnekkjeacaaGreatDoor.Kl
open Go Go.RowKit
theorem head_itoa (n : Int) (m : List UInt8) : (Lib.itoa n ++ m).head? = (Lib.itoa n).head? := by
  refine head_append_ne ?_
  unfold Lib.itoa; split
  · simp
  · exact decDigits_ne _
theorem neg_ratS (q : Rat) : neg (ratS q) = decide (q.num < 0) := by
  rw [← neg_itoa]
  unfold ratS neg
  split
  · rfl
  · rw [head_itoa]
theorem ratS_minus {q : Rat} (h : 0 < q.num) : 45 :: ratS q = ratS (-q) := by
  have e : Lib.itoa (-q.num) = 45 :: Lib.itoa q.num := by
    unfold Lib.itoa; rw [if_pos (by omega), if_neg (by omega), show (-q.num).natAbs = q.num.toNat by omega]
  unfold ratS
  show _ = (if q.den = 1 then Lib.itoa (-q.num) else Lib.itoa (-q.num) ++ 47 :: Lib.itoa q.den)
  rw [e]; split <;> rfl
theorem ratB_tail {q : Rat} (h : q.num < 0) : (ratB q).extract 1 (ratB q).size = ratB (-q) := by
  refine dat_inj ?_
  rw [Lib.extract_to_end]
  show (ratS q).drop 1 = ratS (-q)
  have e := ratS_minus (q := -q) (by show 0 < -q.num; omega)
  rw [Rat.neg_neg] at e
  rw [← e]; rfl
set_option maxRecDepth 100000 in
set_option maxHeartbeats 1000000 in
theorem text_none (p : Option Addr) (c : Nat) (w : World) (h1 : ∀ w', Below w.heap.size w w' → Calls Tryz.prog 61 #[.slice p 0 c] w' fun e w'' => e = .returned (.int .i64 0) ∧ Below w'.heap.size w' w'') :
    Calls Tryz.prog 38 #[.slice p 0 c] w fun e w' => e = .returned (.tuple #[.string ⟨#[48]⟩, .int .i64 0]) ∧ Below w.heap.size w w' := by
  have K1 := Lib.hid h1
  have hb := Below.refl w.heap.size w
  clear h1
  go_enter Tryz.func38, Tryz.ntmps38
  go_wp2_with (go_at_call 61; (with_reducible refine (chain hb (K1.out _ hb)).mono ?_); clear hb; rintro e w1 ⟨rfl, hb⟩)
  go_ret2
  exact ⟨rfl, hb⟩


def head3 (k : Nat) (mi : Bool) (o : ByteArray) : ByteArray := if mi then (if k = 0 then o ++ ⟨#[45]⟩ else o ++ ⟨#[32, 45, 32]⟩) else (if k = 0 then o else o ++ ⟨#[32, 43, 32]⟩)
def tail3 (one unit : Bool) (a rb o : ByteArray) : ByteArray := if one then o ++ a else if unit then o ++ (⟨#[115, 113, 114, 116, 40]⟩ ++ rb ++ ⟨#[41]⟩) else o ++ (a ++ ⟨#[32]⟩) ++ (⟨#[115, 113, 114, 116, 40]⟩ ++ rb ++ ⟨#[41]⟩)
theorem fin3 (k : Nat) (t : Tm) (o : ByteArray) : o ++ (preS (decide (k = 0)) t.1 ++ termS t) = tail3 (decide (t.2 = 1)) (decide (t.1.abs = 1)) (ratB t.1.abs) (itoaB (t.2 : Int)) (head3 k (decide (t.1.num < 0)) o) := by
  refine dat_inj ?_
  unfold preS termS tail3 head3 sqrtS
  by_cases h1 : k = 0 <;> by_cases h2 : t.1.num < 0 <;> by_cases h3 : t.2 = 1 <;> by_cases h4 : t.1.abs = 1 <;> simp [h1, h2, h3, h4, ByteArray.data_append, Array.toList_append, List.append_assoc]
set_option maxRecDepth 100000 in
set_option maxHeartbeats 4000000 in
theorem refText_any (p : Option Addr) (n c : Nat) (ts : List Tm) (hn : n = ts.length) (hm : n ≤ 40) (hf : ∀ t ∈ ts, RL t.1 200 ∧ dlen (t.2 : Int) ≤ 200) (w : World) (h : HasT w p ts) :
    Calls Tryz.prog 39 #[.slice p n c] w fun e w' => e = .returned (.string (if (strOf (textL true ts)).toList == [] then ⟨#[48]⟩ else strOf (textL true ts))) ∧ Below w.heap.size w w' := by
  have H := Lib.hid h
  have HN := Lib.hid hn
  have HF := Lib.hid hf
  clear h hn hf
  have hb := Below.refl w.heap.size w
  go_enter Tryz.func39, Tryz.ntmps39
  go_wp2
  go_loop [3, 4] (fun o i => ∃ k : Nat, k ≤ n ∧ i = .int .i64 k ∧ o = .string (strOf (textL true (ts.take k)))) (fun _ i => n - (intOf i).toNat)
  case atStart => exact ⟨0, Nat.zero_le _, rfl, rfl⟩
  case round =>
    obtain ⟨k, hk, rfl, rfl⟩ := hrel
    by_cases hlt : k < n
    · obtain ⟨t, ht⟩ : ∃ t, ts[k]? = some t := ⟨_, List.getElem?_eq_getElem (by rw [← HN.out]; exact hlt)⟩
      obtain ⟨b, rfl, x0, x1⟩ := H.out k t ht
      obtain ⟨hr1, hr2⟩ := HF.out t (List.mem_of_getElem? ht)
      have hlen := textL_len (ts.take k) true (fun u hu => HF.out u (List.mem_of_mem_take hu))
      rw [List.length_take] at hlen
      have hsn : strOf (textL true (ts.take (k + 1))) = strOf (textL true (ts.take k)) ++ (preS (decide (k = 0)) t.1 ++ termS t) := by
        rw [List.take_add_one, ht]
        have := textL_snoc (ts.take k) true t
        have e : (ts.take k).isEmpty = decide (k = 0) := by
          rw [Bool.eq_iff_iff, List.isEmpty_iff, decide_eq_true_iff]
          refine ⟨fun h => ?_, fun h => by rw [h]; rfl⟩
          have := congrArg List.length h
          rw [List.length_take, List.length_nil] at this
          have := HN.out
          omega
        rw [e] at this
        refine dat_inj ?_
        rw [ByteArray.data_append, Array.toList_append]
        exact this
      have hsz : 0 < (ratB t.1).size := by rw [ratB_size]; have := (ratS_len t.1).1; have := dlen_pos t.1.num; omega
      have hsz2 := size_of_RL hr1
      have hsz3 := size_of_RL hr1.abs
      have hsz4 := sItoa_size (t.2 : Int)
      have hmi : (((ratB t.1)[0].toNat : Int) == 45) = decide (t.1.num < 0) := by
        have h1 := neg_of (ratB t.1) hsz
        rw [show neg (ratB t.1).data.toList = decide (t.1.num < 0) from neg_ratS t.1] at h1
        cases hd : decide (t.1.num < 0) with
        | true => rw [hd] at h1; exact byte_eq (d := 45) rfl (by simpa using h1.symm)
        | false => rw [hd] at h1; exact byte_ne (d := 45) rfl (by simpa using h1.symm)
      have habs : t.1.abs = if t.1.num < 0 then -t.1 else t.1 := by
        split
        · exact Rat.abs_of_nonpos (by rw [Rat.le_iff]; simp only [Rat.zero_num, Rat.zero_den]; omega)
        · exact Rat.abs_of_nonneg (Rat.num_nonneg.1 (by omega))
      have e1 := itoa_is_one (r := t.2)
      have e2 := rat_is_one (q := t.1.abs)
      have hfin := fin3 k t (strOf (textL true (ts.take k)))
      rw [← hsn] at hfin
      have hoz : (strOf (textL true (ts.take k))).size ≤ 40 * 703 := by rw [strOf_size]; have := Nat.mul_le_mul_right 703 (show min k ts.length ≤ 40 by omega); omega
      obtain ⟨o, ho⟩ : ∃ v, strOf (textL true (ts.take k)) = v := ⟨_, rfl⟩
      obtain ⟨o2, ho2⟩ : ∃ v, strOf (textL true (ts.take (k + 1))) = v := ⟨_, rfl⟩
      rw [ho] at hfin hoz
      rw [ho2] at hfin
      rw [ho]
      have HO2 := Lib.hid ho2
      have hmt : t.1.num < 0 → (ratB t.1).extract 1 (ratB t.1).size = ratB t.1.abs := fun h => by rw [habs, if_pos h]; exact ratB_tail h
      have hpl : ¬ t.1.num < 0 → ratB t.1 = ratB t.1.abs := fun h => by rw [habs, if_neg h]
      clear hsn hlen ho ho2 habs ht
      generalize ratB t.1.abs = a at e2 hfin hmt hpl hsz3
      generalize itoaB (t.2 : Int) = rb at x1 e1 hfin hsz4
      generalize decide (t.2 = 1) = one at e1 hfin
      generalize decide (t.1.abs = 1) = unit at e2 hfin
      have e3 : (a.toList != [49]) = !unit := by rw [bne, e2]
      have g1 : (k : Int) < (n : Int) := by omega
      have g2 : (0 : Int) ≤ (k : Int) := by omega
      have g3 : (0 : Int) < ((ratB t.1).size : Int) := by omega
      have g4 : (1 : Int) ≤ ((ratB t.1).size : Int) := by omega
      have HF3 := Lib.hid hfin
      clear hfin
      by_cases hneg : t.1.num < 0
      · have hx := hmt hneg
        rw [decide_eq_true hneg] at hmi HF3
        clear hmt hpl hneg
        rcases Nat.eq_zero_or_pos k with hk0 | hk0
        · subst hk0
          cases one <;> cases unit <;>
            (go_wp2
             go_round
             case rel => exact ⟨0 + 1, by omega, by go_num, by rw [HO2.out, HF3.out]; rfl⟩
             case measure => simp [intOf]; omega)
        · have g5 : (0 : Int) < (k : Int) := by omega
          have g6 : ((k : Int) == 0) = false := by rw [beq_eq_false_iff_ne]; omega
          obtain ⟨j, rfl⟩ : ∃ j, k = j + 1 := ⟨k - 1, by omega⟩
          cases one <;> cases unit <;>
            (go_wp2
             go_round
             case rel => exact ⟨j + 1 + 1, by omega, by go_num, by rw [HO2.out, HF3.out]; rfl⟩
             case measure => simp [intOf]; omega)
      · have hx := hpl hneg
        rw [decide_eq_false hneg] at hmi HF3
        subst hx
        clear hmt hpl hneg
        rcases Nat.eq_zero_or_pos k with hk0 | hk0
        · subst hk0
          cases one <;> cases unit <;>
            (go_wp2
             go_round
             case rel => exact ⟨0 + 1, by omega, by go_num, by rw [HO2.out, HF3.out]; rfl⟩
             case measure => simp [intOf]; omega)
        · have g5 : (0 : Int) < (k : Int) := by omega
          have g6 : ((k : Int) == 0) = false := by rw [beq_eq_false_iff_ne]; omega
          obtain ⟨j, rfl⟩ : ∃ j, k = j + 1 := ⟨k - 1, by omega⟩
          cases one <;> cases unit <;>
            (go_wp2
             go_round
             case rel => exact ⟨j + 1 + 1, by omega, by go_num, by rw [HO2.out, HF3.out]; rfl⟩
             case measure => simp [intOf]; omega)
    · have hkn : k = n := by omega
      subst hkn
      rw [List.take_of_length_le (by rw [← HN.out]; omega)]
      cases e0 : ((strOf (textL true ts)).toList == []) with
      | true =>
        go_wp2
        go_ret
        exact ⟨rfl, hb⟩
      | false =>
        go_wp2
        go_ret
        exact ⟨rfl, hb⟩


def textS (ts : List Tm) : ByteArray := match ts with | [] => ⟨#[48]⟩ | t :: r => strOf (textL true (t :: r))
theorem term_ne (t : Tm) : (termS t).data.toList ≠ [] := by
  have h1 : 0 < (ratB t.1.abs).size := by rw [ratB_size]; have := (ratS_len t.1.abs).1; have := dlen_pos t.1.abs.num; omega
  have h2 : 0 < (sqrtS t.2).size := by unfold sqrtS; rw [ByteArray.size_append, ByteArray.size_append]; show 0 < 5 + _ + 1; omega
  intro e
  have hz : (termS t).size = 0 := by rw [size_len, e]; rfl
  unfold termS at hz
  split at hz
  · omega
  · split at hz
    · omega
    · rw [ByteArray.size_append] at hz; omega
theorem refText_good (ts : List Tm) (hm : ts.length ≤ 40) (hf : ∀ t ∈ ts, RL t.1 200 ∧ dlen (t.2 : Int) ≤ 200) (p : Option Addr) (c : Nat) (w : World) (h : HasT w p ts) :
    Calls Tryz.prog 39 #[.slice p ts.length c] w fun e w' => e = .returned (.string (textS ts)) ∧ Below w.heap.size w w' := by
  have := refText_any p ts.length c ts rfl hm hf w h
  match ts, this with
  | [], this =>
    rw [if_pos (by decide +kernel)] at this
    exact this
  | t :: r, this =>
    have e0 : ((strOf (textL true (t :: r))).toList == []) = false := by
      rw [beq_eq_false_iff_ne]
      intro e
      have e2 : (strOf (textL true (t :: r))).toList = textL true (t :: r) := Lib.toList_data _
      rw [e2] at e
      have e3 : (preS true t.1 ++ termS t).data.toList ++ textL false r = [] := e
      rw [List.append_eq_nil_iff, ByteArray.data_append, Array.toList_append, List.append_eq_nil_iff] at e3
      exact term_ne t e3.1.2
    rw [e0] at this
    exact this
theorem surdText_good (ts : List Tm) (hg : Good ts) (p : Option Addr) (c : Nat) (w : World) (R : EnvS w) (h : HasT w p ts) :
    Calls Tryz.prog 38 #[.slice p ts.length c] w fun e w' => e = .returned (.tuple #[.string (textS ts), .int .i64 0]) ∧ Below w.heap.size w w' := by
  match ts, hg, h with
  | [], hg, h => exact text_none p c w (fun w' hb => check_ok p 0 c [] rfl hg w' (EnvS.below R hb) (h.below hb))
  | t :: r, hg, h => exact text_some p _ c (t :: r) rfl hg.len (Nat.succ_pos _) (fun u hu => ⟨(hg.fit u hu).1, (hg.fit u hu).2.1⟩) w R.toEnvR h (fun w' hb => check_ok p _ c (t :: r) rfl hg w' (EnvS.below R hb) (h.below hb))
set_option maxRecDepth 100000 in
set_option maxHeartbeats 1000000 in
theorem lawST_long (p : Option Addr) (n c : Nat) (hm : 6 < (n : Int)) (w : World) (R : EnvS w) :
    Calls Tryz.prog 10 #[.slice p n c] w fun e w' => e = .returned (.bool true) ∧ Below w.heap.size w w' := by
  have c0 : ∀ w, EnvS w → Calls Tryz.prog 13 #[] w fun e w' => e = .returned (.bool true) ∧ Below w.heap.size w w' := by
    intro w R
    exact known3_any w R
  have C0 := Lib.hid c0
  clear c0
  have hb := Below.refl w.heap.size w
  go_enter Tryz.func10, Tryz.ntmps10
  go_wp2_with (go_at_call 13; (with_reducible refine (chain hb (C0.out _ (EnvS.below R hb))).mono ?_); clear hb; rintro e w1 ⟨rfl, hb⟩)
  go_ret
  exact ⟨rfl, hb⟩
set_option maxRecDepth 100000 in
set_option maxHeartbeats 1000000 in
theorem lawST_short (p : Option Addr) (n c : Nat) (qs : List Part) (hm : ¬ 6 < (n : Int)) (ts : List Tm) (x : ByteArray) (ht : ts.length ≤ 1000)
    (h1 : ∀ w, EnvR w → HasP w p qs → Calls Tryz.prog 20 #[.slice p n c] w (RetL w ts)) (h2 : ∀ (p : Option Addr) (c : Nat) w, EnvS w → HasT w p ts → Calls Tryz.prog 38 #[.slice p ts.length c] w fun e w' => e = .returned (.tuple #[.string x, .int .i64 0]) ∧ Below w.heap.size w w')
    (h3 : ∀ (p : Option Addr) (c : Nat) w, HasT w p ts → Calls Tryz.prog 39 #[.slice p ts.length c] w fun e w' => e = .returned (.string x) ∧ Below w.heap.size w w') (w : World) (R : EnvS w) (hp : HasP w p qs) :
    Calls Tryz.prog 10 #[.slice p n c] w fun e w' => e = .returned (.bool true) ∧ Below w.heap.size w w' := by
  have c0 : ∀ w, EnvS w → Calls Tryz.prog 13 #[] w fun e w' => e = .returned (.bool true) ∧ Below w.heap.size w w' := by
    intro w R
    exact known3_any w R
  have C0 := Lib.hid c0
  have C1 := Lib.hid h1
  have C2 := Lib.hid h2
  have C3 := Lib.hid h3
  have HP := Lib.hid hp
  have HM := Lib.hid ht
  clear c0 h1 h2 h3 hp ht
  have hb := Below.refl w.heap.size w
  go_enter Tryz.func10, Tryz.ntmps10
  go_upto_region 4 with (first | (go_at_call 13; (with_reducible refine (chain hb (C0.out _ (EnvS.below R hb))).mono ?_); clear hb; rintro e w1 ⟨rfl, hb⟩) | (go_at_call 20; (with_reducible refine (chainL hb (C1.out _ (R.toEnvR.below hb) (HP.out.below hb))).mono ?_); clear hb; rintro e w2 ⟨p2, n2, c2, rfl, hn2, hc2, hT, hk, hb⟩; subst hn2; clear hk))
  go_wp2_with (first | (go_at_call 38; (with_reducible refine (zK hb (C2.out _ _ _ (EnvS.below R hb) hT)).mono ?_); clear hb; rintro e w3 ⟨rfl, hk, hb⟩; replace hT := hT.below hk; clear hk) | (go_at_call 18; ((with_reducible refine (chainL hb (plain_any _ _ _ ts rfl HM.out _ hT)).mono ?_); clear hb; rintro e w4 ⟨p4, n4, c4, rfl, hn4, _, hQ, hk, hb⟩; subst hn4; clear hk hT)) | (go_at_call 39; (with_reducible refine (zK hb (C3.out _ _ _ hQ)).mono ?_); clear hb; rintro e w5 ⟨rfl, hk, hb⟩; clear hk hQ))
  go_ret
  exact ⟨rfl, hb⟩
/-- SurdTexts returns true for every list of parts. -/
theorem lawSTexts (p : Option Addr) (n c : Nat) (qs : List Part) (hn : n = qs.length) (w : World) (R : EnvS w) (hp : HasP w p qs) :
    Calls Tryz.prog 10 #[.slice p n c] w fun e w' => e = .returned (.bool true) ∧ Below w.heap.size w w' := by
  by_cases hm : 6 < (n : Int)
  · exact lawST_long p n c hm w R
  · obtain ⟨hi, hl⟩ := mkL_inv qs n
    have hg := inv_good hi (by omega) (by omega)
    exact lawST_short p n c qs hm (mkL qs n) (textS (mkL qs n)) (by omega) (fun w R h => lawMake_any p n c qs hn (by omega) w R h) (fun p c w R h => surdText_good (mkL qs n) hg p c w R h) (fun p c w h => refText_good (mkL qs n) hg.len (fun t ht => ⟨(hg.fit t ht).1, (hg.fit t ht).2.1⟩) p c w h) w R hp
end Go.Proofs.YtpphjnekkjeacaaGreatDoor.Kl
