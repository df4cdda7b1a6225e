/- Contracts: the reference's Parse and Neg. -/
import Derived.Test.YtkekdcmonenciaaGreatDoorKlCanon
namespace Go.Proofs.YtkekdcmonenciaaGreatDoor.Kl
open Go Go.RowKit

/-- Without zeros ahead, but for the last digit. -/
def strip1 : List UInt8 → List UInt8
  | [] => []
  | [c] => [c]
  | c :: d :: r => if c == 48 then strip1 (d :: r) else c :: d :: r
theorem strip1_eq : ∀ (l : List UInt8), l.all isDig = true → l ≠ [] → strip1 l = if strip l = [] then [48] else strip l
  | [], _, h => absurd rfl h
  | [c], _, _ => by
    unfold strip1 strip
    by_cases hc : c = 48
    · subst hc; decide
    · rw [List.dropWhile_cons_of_neg (by simpa using hc)]; rfl
  | c :: d :: r, h, _ => by
    unfold strip1
    rw [List.all_cons, Bool.and_eq_true] at h
    by_cases hc : c = 48
    · subst hc
      have e : strip (48 :: d :: r) = strip (d :: r) := by
        unfold strip; rw [List.dropWhile_cons_of_pos (a := (48 : UInt8)) (l := d :: r) (by decide)]
      rw [if_pos (by decide), strip1_eq (d :: r) h.2 (by simp), e]
    · have : (c == 48) = false := by simpa using hc
      rw [this, if_neg (by decide)]
      unfold strip
      rw [List.dropWhile_cons_of_neg (by simpa using hc)]; rfl
/-- What is left of the digits, while zeros are taken away. -/
structure Tail (u : List UInt8) (t : ByteArray) : Prop where
  pos : 0 < t.size
  le : t.size ≤ u.length
  same : strip1 t.data.toList = strip1 u
def strLen : Value → Nat | .string t => t.size | _ => 0
theorem tail_start {D : ByteArray} (h : digB D.data.toList = true) : Tail D.data.toList D :=
  ⟨by rw [size_len]; exact List.length_pos_iff.2 (digB_iff.1 h).2, by rw [← size_len]; exact Nat.le_refl _, rfl⟩
theorem list_two {t : ByteArray} (h : 1 < t.size) : ∃ d r, t.data.toList = t[0] :: d :: r := by
  obtain ⟨⟨l⟩⟩ := t
  match l, h with
  | c :: d :: r, _ => exact ⟨d, r, rfl⟩
theorem tail_step {u : List UInt8} {t : ByteArray} (h : Tail u t) (h1 : 1 < t.size) (h48 : ((t[0].toNat : Int) == 48) = true) : Tail u (t.extract 1 t.size) := by
  obtain ⟨d, r, e⟩ := list_two h1
  have he : (t.extract 1 t.size).data.toList = d :: r := by rw [Lib.extract_to_end, e]; rfl
  have c48 : t[0] = 48 := UInt8.toNat.inj (by have := beq_iff_eq.1 h48; have h48 : (48 : UInt8).toNat = 48 := rfl; omega)
  refine ⟨?_, ?_, ?_⟩
  · rw [size_len, he]; simp
  · have := h.le; rw [size_len, e] at this; rw [size_len, he]; simp at this ⊢; omega
  · rw [he, ← h.same, e, c48]; rfl
theorem tail_end {u : List UInt8} {t : ByteArray} (h : Tail u t) (h1 : ¬ (1 < t.size ∧ ((t[0]'h.pos).toNat : Int) = 48)) : t.data.toList = strip1 u := by
  rw [← h.same]
  by_cases h2 : 1 < t.size
  · obtain ⟨d, r, e⟩ := list_two h2
    rw [e]
    have : (t[0] == 48) = false := by
      rw [beq_eq_false_iff_ne]; intro c; apply h1; exact ⟨h2, by rw [c]; rfl⟩
    unfold strip1
    rw [this, if_neg (by decide)]
  · have hp := h.pos
    have hl : t.data.toList.length = 1 := by rw [← size_len]; omega
    obtain ⟨c, hc⟩ := List.length_eq_one_iff.1 hl
    rw [hc]; rfl
theorem empty_true (s : ByteArray) (h : s.size = 0) : s.toList.isEmpty = true := by
  rw [Lib.toList_data]; rw [size_len, List.length_eq_zero_iff] at h; rw [h]; rfl

theorem ref_nodig {s D : ByteArray} (hn : s.data.toList ≠ []) (hd : D.data.toList = unsign s.data.toList) (k : Nat) (h : k < D.size) (d : isDig D[k] = false) :
    Ending.returned (.tuple #[.string ⟨#[]⟩, .int .i64 15]) = ParseEnd s :=
  retSI (by rw [pe1 hn (by rw [← hd]; exact digB_false_at D k h d)]; rfl) (by rw [pe1 hn (by rw [← hd]; exact digB_false_at D k h d)])
theorem ref_empty {s D : ByteArray} (hn : s.data.toList ≠ []) (hd : D.data.toList = unsign s.data.toList) (h : D.size = 0) :
    Ending.returned (.tuple #[.string ⟨#[]⟩, .int .i64 15]) = ParseEnd s := by
  have e : digB (unsign s.data.toList) = false := by rw [← hd, size_zero_eq D h]; rfl
  exact retSI (by rw [pe1 hn e]; rfl) (by rw [pe1 hn e])

theorem ends_parts {s D t : ByteArray} (hd : D.data.toList = unsign s.data.toList) (hg : digB D.data.toList = true) (ht : t.data.toList = strip1 D.data.toList) :
    digB (unsign s.data.toList) = true ∧ t.data.toList = if strip (unsign s.data.toList) = [] then [48] else strip (unsign s.data.toList) := by
  rw [← hd]
  exact ⟨hg, by rw [ht, strip1_eq _ (digB_iff.1 hg).1 (digB_iff.1 hg).2]⟩
theorem ref_long {s D t : ByteArray} (hn : s.data.toList ≠ []) (hd : D.data.toList = unsign s.data.toList) (hg : digB D.data.toList = true) (ht : t.data.toList = strip1 D.data.toList) (hl : 200 < t.size) :
    Ending.returned (.tuple #[.string ⟨#[]⟩, .int .i64 4]) = ParseEnd s := by
  obtain ⟨h1, h2⟩ := ends_parts hd hg ht
  rw [size_len, h2] at hl
  have hz : strip (unsign s.data.toList) ≠ [] := by
    intro e; rw [if_pos e] at hl; simp at hl
  rw [if_neg hz] at hl
  exact retSI (by rw [pe2 hn h1 hl]; rfl) (by rw [pe2 hn h1 hl])
theorem ref_plain {s D t : ByteArray} (hn : s.data.toList ≠ []) (hd : D.data.toList = unsign s.data.toList) (hg : digB D.data.toList = true) (ht : t.data.toList = strip1 D.data.toList) (hl : ¬ 200 < t.size) (hm : neg s.data.toList = false) :
    Ending.returned (.tuple #[.string t, .int .i64 0]) = ParseEnd s := by
  obtain ⟨h1, h2⟩ := ends_parts hd hg ht
  rw [size_len, h2] at hl
  by_cases hz : strip (unsign s.data.toList) = []
  · rw [if_pos hz] at h2
    exact retSI (by rw [pe3 hn h1 hz]; exact eq_strOf h2) (by rw [pe3 hn h1 hz])
  · rw [if_neg hz] at h2 hl
    exact retSI (by rw [pe5 hn h1 hl hz hm]; exact eq_strOf h2) (by rw [pe5 hn h1 hl hz hm])
/-- What Neg makes of digits. -/
def negDig (l : List UInt8) : List UInt8 := if l = [48] then [48] else 45 :: l
theorem ref_minus {s D t : ByteArray} (hn : s.data.toList ≠ []) (hd : D.data.toList = unsign s.data.toList) (hg : digB D.data.toList = true) (ht : t.data.toList = strip1 D.data.toList) (hl : ¬ 200 < t.size) (hm : neg s.data.toList = true) :
    Ending.returned (.tuple #[.string (strOf (negDig t.data.toList)), .int .i64 0]) = ParseEnd s := by
  obtain ⟨h1, h2⟩ := ends_parts hd hg ht
  rw [size_len, h2] at hl
  by_cases hz : strip (unsign s.data.toList) = []
  · rw [if_pos hz] at h2
    exact retSI (by rw [pe3 hn h1 hz, h2]; rfl) (by rw [pe3 hn h1 hz])
  · rw [if_neg hz] at h2 hl
    have : t.data.toList ≠ [48] := by
      rw [h2]; intro e
      have h3 := List.head?_dropWhile_not (· == 48) (unsign s.data.toList)
      unfold strip at e
      rw [e] at h3
      simp at h3
    exact retSI (by rw [pe4 hn h1 hl hz hm]; unfold negDig; rw [if_neg this, h2]) (by rw [pe4 hn h1 hl hz hm])
theorem digB_tail {D t : ByteArray} (hg : digB D.data.toList = true) (ht : t.data.toList = strip1 D.data.toList) : digB t.data.toList = true := by
  obtain ⟨h1, h2⟩ := digB_iff.1 hg
  rw [ht, strip1_eq _ h1 h2]
  by_cases hz : strip D.data.toList = []
  · rw [if_pos hz]; decide
  · rw [if_neg hz, digB_iff]
    refine ⟨?_, hz⟩
    rw [List.all_eq_true] at h1 ⊢
    intro x hx
    exact h1 x ((List.dropWhile_sublist _).mem hx)

set_option maxRecDepth 100000 in
set_option maxHeartbeats 1000000 in
theorem refNeg_dig (t : ByteArray) (w : World) (h : digB t.data.toList = true) (hts : t.size ≤ 1000000) :
    Calls Tryz.prog 35 #[.string t] w fun e w' => e = .returned (.string (strOf (negDig t.data.toList))) ∧ Below w.heap.size w w' := by
  have hn := neg_dig (digB_iff.1 h).1
  have hms : (magB t).size ≤ 1000000 := by have := magB_le t; omega
  have HM := Lib.hid (magB_plus t hn)
  have HN := Lib.hid hn
  clear hn h
  have hb := Below.refl w.heap.size w
  by_cases hz : t.data.toList = [48]
  · have hz' : (t.toList == [48]) = true := by rw [Lib.toList_data, hz]; rfl
    have HZ := Lib.hid hz
    clear hz
    go_enter Tryz.func35, Tryz.ntmps35
    go_wp2_with (go_at_call 42; refine (chain hb (split_any _ _ false HN.out)).mono ?_; clear hb; rintro e w1 ⟨rfl, hb⟩)
    go_ret
    exact ⟨retS (by rw [← HM.out]; unfold negDig; rw [if_pos HZ.out]; exact eq_strOf HZ.out), hb⟩
  · have hz' : (t.toList == [48]) = false := by rw [Lib.toList_data]; exact beq_eq_false_iff_ne.2 hz
    have HZ := Lib.hid hz
    clear hz
    go_enter Tryz.func35, Tryz.ntmps35
    go_wp2_with (go_at_call 42; refine (chain hb (split_any _ _ false HN.out)).mono ?_; clear hb; rintro e w1 ⟨rfl, hb⟩)
    go_ret
    exact ⟨retS (by unfold negDig; rw [if_neg HZ.out, ← cat_minus, ← HM.out]; rfl), hb⟩

set_option maxRecDepth 100000 in
set_option maxHeartbeats 4000000 in
theorem refParse_p (s : ByteArray) (w : World) (hs : s.size ≤ 1000000) (h0 : 0 < s.size) (hx : s.extract 1 s.size = unsB s) (t2 : ((s[0].toNat : Int) == 45) = false) (t1 : ((s[0].toNat : Int) == 43) = true) (hn : neg s.data.toList = false) :
    Calls Tryz.prog 34 #[.string s] w fun e w' => e = ParseEnd s ∧ Below w.heap.size w w' := by
    have he := empty_false s h0
    have HN := Lib.hid (ne_of_size s h0)
    have h0' : (0 : Int) < (s.size : Int) := by omega
    have hus : (unsB s).size ≤ 1000000 := by rw [unsB_size]; have := unsign_le s.data.toList; rw [size_len] at hs; omega
    have HU : Hid ((unsB s).data.toList = unsign s.data.toList) := rfl
    have hb := Below.refl w.heap.size w
    
    · have HG := Lib.hid hn
      clear hn

      go_enter Tryz.func34, Tryz.ntmps34
      go_wp2
      go_loop [5] (fun i => ∃ k : Nat, k ≤ (unsB s).size ∧ i = .int .i64 k ∧ ((unsB s).data.toList.take k).all isDig = true) (fun i => (unsB s).size - (intOf i).toNat)
      case atStart => exact ⟨0, Nat.zero_le _, rfl, rfl⟩
      case round =>
        obtain ⟨k, hk, rfl, hall⟩ := hrel
        have HA := Lib.hid hall
        clear hall
        by_cases hlt : k < (unsB s).size
        · go_wp2
          · have hy : ((unsB s)[k].toNat : Int) < 48 ∨ 57 < ((unsB s)[k].toNat : Int) := by assumption
            go_ret2
            exact ⟨ref_nodig HN.out HU.out k hlt (hy.elim isDig_lt isDig_gt), hb⟩
          · have hy : 48 ≤ ((unsB s)[k].toNat : Int) ∧ ((unsB s)[k].toNat : Int) ≤ 57 := by assumption
            go_round
            case rel => exact ⟨k + 1, by omega, by go_num, all_step (unsB s) k hlt HA.out (isDig_in hy.1 hy.2)⟩
            case measure => simp [intOf]; omega
          · have hy : ((unsB s)[k].toNat : Int) < 48 := by assumption
            go_ret2
            exact ⟨ref_nodig HN.out HU.out k hlt (isDig_lt hy), hb⟩
        · obtain rfl : k = (unsB s).size := by omega
          by_cases hz : (unsB s).size = 0
          · have hez : (unsB s).toList.isEmpty = true := empty_true (unsB s) hz
            go_wp2
            go_ret2
            exact ⟨ref_empty HN.out HU.out hz, hb⟩
          · have hez := empty_false (unsB s) (by omega)
            have HG2 := Lib.hid (digB_of HA.out (by omega : 0 < (unsB s).size))
            go_wp2
            go_loop [0] (fun v => ∃ t : ByteArray, v = .string t ∧ Tail (unsB s).data.toList t) (fun v => strLen v)
            case atStart => exact ⟨(unsB s), rfl, tail_start HG2.out⟩
            case round =>
              obtain ⟨t, rfl, ht⟩ := hrel
              have HT := Lib.hid ht
              have htp := ht.pos
              have htl := ht.le
              rw [← size_len] at htl
              clear ht
              have htp' : (0 : Int) < (t.size : Int) := by omega
              by_cases h1 : 1 < t.size ∧ ((t[0].toNat : Int) == 48) = true
              · obtain ⟨h1, h48⟩ := h1
                go_wp2
                go_round
                case rel => exact ⟨t.extract 1 t.size, rfl, tail_step HT.out h1 h48⟩
                case measure => simp [strLen]; omega
              · have HE := Lib.hid (tail_end HT.out (fun x => h1 ⟨x.1, beq_iff_eq.2 x.2⟩))
                have hx : t.size ≤ 1 ∨ (1 < t.size ∧ ((t[0].toNat : Int) == 48) = false) := by
                  by_cases h2 : 1 < t.size
                  · refine Or.inr ⟨h2, ?_⟩
                    cases h3 : ((t[0].toNat : Int) == 48) with
                    | true => exact absurd ⟨h2, h3⟩ h1
                    | false => rfl
                  · exact Or.inl (by omega)
                clear h1
                by_cases hl : 200 < t.size
                · rcases hx with hx | ⟨hx, h48⟩
                  · omega
                  · go_wp2
                    go_ret2
                    exact ⟨ref_long HN.out HU.out HG2.out HE.out hl, hb⟩
                · rcases hx with hx | ⟨hx, h48⟩
                  all_goals
                  go_wp2
                  go_ret2
                  exact ⟨ref_plain HN.out HU.out HG2.out HE.out hl HG.out, hb⟩

set_option maxRecDepth 100000 in
set_option maxHeartbeats 4000000 in
theorem refParse_m (s : ByteArray) (w : World) (hs : s.size ≤ 1000000) (h0 : 0 < s.size) (hx : s.extract 1 s.size = unsB s) (t2 : ((s[0].toNat : Int) == 45) = true) (_t1 : ((s[0].toNat : Int) == 43) = false) (hn : neg s.data.toList = true) :
    Calls Tryz.prog 34 #[.string s] w fun e w' => e = ParseEnd s ∧ Below w.heap.size w w' := by
    have he := empty_false s h0
    have HN := Lib.hid (ne_of_size s h0)
    have h0' : (0 : Int) < (s.size : Int) := by omega
    have hus : (unsB s).size ≤ 1000000 := by rw [unsB_size]; have := unsign_le s.data.toList; rw [size_len] at hs; omega
    have HU : Hid ((unsB s).data.toList = unsign s.data.toList) := rfl
    have hb := Below.refl w.heap.size w
    
    · have HG := Lib.hid hn
      clear hn

      go_enter Tryz.func34, Tryz.ntmps34
      go_wp2
      go_loop [5] (fun i => ∃ k : Nat, k ≤ (unsB s).size ∧ i = .int .i64 k ∧ ((unsB s).data.toList.take k).all isDig = true) (fun i => (unsB s).size - (intOf i).toNat)
      case atStart => exact ⟨0, Nat.zero_le _, rfl, rfl⟩
      case round =>
        obtain ⟨k, hk, rfl, hall⟩ := hrel
        have HA := Lib.hid hall
        clear hall
        by_cases hlt : k < (unsB s).size
        · go_wp2
          · have hy : ((unsB s)[k].toNat : Int) < 48 ∨ 57 < ((unsB s)[k].toNat : Int) := by assumption
            go_ret2
            exact ⟨ref_nodig HN.out HU.out k hlt (hy.elim isDig_lt isDig_gt), hb⟩
          · have hy : 48 ≤ ((unsB s)[k].toNat : Int) ∧ ((unsB s)[k].toNat : Int) ≤ 57 := by assumption
            go_round
            case rel => exact ⟨k + 1, by omega, by go_num, all_step (unsB s) k hlt HA.out (isDig_in hy.1 hy.2)⟩
            case measure => simp [intOf]; omega
          · have hy : ((unsB s)[k].toNat : Int) < 48 := by assumption
            go_ret2
            exact ⟨ref_nodig HN.out HU.out k hlt (isDig_lt hy), hb⟩
        · obtain rfl : k = (unsB s).size := by omega
          by_cases hz : (unsB s).size = 0
          · have hez : (unsB s).toList.isEmpty = true := empty_true (unsB s) hz
            go_wp2
            go_ret2
            exact ⟨ref_empty HN.out HU.out hz, hb⟩
          · have hez := empty_false (unsB s) (by omega)
            have HG2 := Lib.hid (digB_of HA.out (by omega : 0 < (unsB s).size))
            go_wp2
            go_loop [0] (fun v => ∃ t : ByteArray, v = .string t ∧ Tail (unsB s).data.toList t) (fun v => strLen v)
            case atStart => exact ⟨(unsB s), rfl, tail_start HG2.out⟩
            case round =>
              obtain ⟨t, rfl, ht⟩ := hrel
              have HT := Lib.hid ht
              have htp := ht.pos
              have htl := ht.le
              rw [← size_len] at htl
              clear ht
              have htp' : (0 : Int) < (t.size : Int) := by omega
              by_cases h1 : 1 < t.size ∧ ((t[0].toNat : Int) == 48) = true
              · obtain ⟨h1, h48⟩ := h1
                go_wp2
                go_round
                case rel => exact ⟨t.extract 1 t.size, rfl, tail_step HT.out h1 h48⟩
                case measure => simp [strLen]; omega
              · have HE := Lib.hid (tail_end HT.out (fun x => h1 ⟨x.1, beq_iff_eq.2 x.2⟩))
                have hx : t.size ≤ 1 ∨ (1 < t.size ∧ ((t[0].toNat : Int) == 48) = false) := by
                  by_cases h2 : 1 < t.size
                  · refine Or.inr ⟨h2, ?_⟩
                    cases h3 : ((t[0].toNat : Int) == 48) with
                    | true => exact absurd ⟨h2, h3⟩ h1
                    | false => rfl
                  · exact Or.inl (by omega)
                clear h1
                by_cases hl : 200 < t.size
                · rcases hx with hx | ⟨hx, h48⟩
                  · omega
                  · go_wp2
                    go_ret2
                    exact ⟨ref_long HN.out HU.out HG2.out HE.out hl, hb⟩
                · rcases hx with hx | ⟨hx, h48⟩
                  all_goals
                  go_wp2_with (go_at_call 35; refine (chain hb (refNeg_dig _ _ (digB_tail HG2.out HE.out) (by omega))).mono ?_; clear hb; rintro e w1 ⟨rfl, hb⟩)
                  go_ret2
                  exact ⟨ref_minus HN.out HU.out HG2.out HE.out hl HG.out, hb⟩

set_option maxRecDepth 100000 in
set_option maxHeartbeats 4000000 in
theorem refParse_d (s : ByteArray) (w : World) (hs : s.size ≤ 1000000) (h0 : 0 < s.size) (hx : s.data.toList = unsign s.data.toList) (t2 : ((s[0].toNat : Int) == 45) = false) (t1 : ((s[0].toNat : Int) == 43) = false) (hn : neg s.data.toList = false) :
    Calls Tryz.prog 34 #[.string s] w fun e w' => e = ParseEnd s ∧ Below w.heap.size w w' := by
    have he := empty_false s h0
    have HN := Lib.hid (ne_of_size s h0)
    have h0' : (0 : Int) < (s.size : Int) := by omega
    have hus : (unsB s).size ≤ 1000000 := by rw [unsB_size]; have := unsign_le s.data.toList; rw [size_len] at hs; omega
    have HU : Hid ((unsB s).data.toList = unsign s.data.toList) := rfl
    have hb := Below.refl w.heap.size w
    have HX := Lib.hid hx
    clear hx
    · have HG := Lib.hid hn
      clear hn

      go_enter Tryz.func34, Tryz.ntmps34
      go_wp2
      go_loop [5] (fun i => ∃ k : Nat, k ≤ s.size ∧ i = .int .i64 k ∧ (s.data.toList.take k).all isDig = true) (fun i => s.size - (intOf i).toNat)
      case atStart => exact ⟨0, Nat.zero_le _, rfl, rfl⟩
      case round =>
        obtain ⟨k, hk, rfl, hall⟩ := hrel
        have HA := Lib.hid hall
        clear hall
        by_cases hlt : k < s.size
        · go_wp2
          · have hy : (s[k].toNat : Int) < 48 ∨ 57 < (s[k].toNat : Int) := by assumption
            go_ret2
            exact ⟨ref_nodig HN.out HX.out k hlt (hy.elim isDig_lt isDig_gt), hb⟩
          · have hy : 48 ≤ (s[k].toNat : Int) ∧ (s[k].toNat : Int) ≤ 57 := by assumption
            go_round
            case rel => exact ⟨k + 1, by omega, by go_num, all_step s k hlt HA.out (isDig_in hy.1 hy.2)⟩
            case measure => simp [intOf]; omega
          · have hy : (s[k].toNat : Int) < 48 := by assumption
            go_ret2
            exact ⟨ref_nodig HN.out HX.out k hlt (isDig_lt hy), hb⟩
        · obtain rfl : k = s.size := by omega
          by_cases hz : s.size = 0
          · exact absurd hz (by omega)
          · have hez := empty_false s (by omega)
            have HG2 := Lib.hid (digB_of HA.out (by omega : 0 < s.size))
            go_wp2
            go_loop [0] (fun v => ∃ t : ByteArray, v = .string t ∧ Tail s.data.toList t) (fun v => strLen v)
            case atStart => exact ⟨s, rfl, tail_start HG2.out⟩
            case round =>
              obtain ⟨t, rfl, ht⟩ := hrel
              have HT := Lib.hid ht
              have htp := ht.pos
              have htl := ht.le
              rw [← size_len] at htl
              clear ht
              have htp' : (0 : Int) < (t.size : Int) := by omega
              by_cases h1 : 1 < t.size ∧ ((t[0].toNat : Int) == 48) = true
              · obtain ⟨h1, h48⟩ := h1
                go_wp2
                go_round
                case rel => exact ⟨t.extract 1 t.size, rfl, tail_step HT.out h1 h48⟩
                case measure => simp [strLen]; omega
              · have HE := Lib.hid (tail_end HT.out (fun x => h1 ⟨x.1, beq_iff_eq.2 x.2⟩))
                have hx : t.size ≤ 1 ∨ (1 < t.size ∧ ((t[0].toNat : Int) == 48) = false) := by
                  by_cases h2 : 1 < t.size
                  · refine Or.inr ⟨h2, ?_⟩
                    cases h3 : ((t[0].toNat : Int) == 48) with
                    | true => exact absurd ⟨h2, h3⟩ h1
                    | false => rfl
                  · exact Or.inl (by omega)
                clear h1
                by_cases hl : 200 < t.size
                · rcases hx with hx | ⟨hx, h48⟩
                  · omega
                  · go_wp2
                    go_ret2
                    exact ⟨ref_long HN.out HX.out HG2.out HE.out hl, hb⟩
                · rcases hx with hx | ⟨hx, h48⟩
                  all_goals
                  go_wp2
                  go_ret2
                  exact ⟨ref_plain HN.out HX.out HG2.out HE.out hl HG.out, hb⟩

theorem refParse_any (s : ByteArray) (w : World) (hs : s.size ≤ 1000000) :
    Calls Tryz.prog 34 #[.string s] w fun e w' => e = ParseEnd s ∧ Below w.heap.size w w' := by
  by_cases h0 : 0 < s.size
  case neg =>
    obtain rfl := size_zero_eq s (by omega)
    unfold strOf
    go_enter Tryz.func34, Tryz.ntmps34
    go_wp2
    go_ret2
    exact ⟨rfl, Below.refl _ _⟩
  case pos =>
    rcases starts s h0 with ⟨hx, t1, hn⟩ | ⟨hx, t1, t2, hn⟩ | ⟨hx, t1, t2, hn⟩
    · have t2 : ((s[0].toNat : Int) == 45) = false := by
        rw [beq_iff_eq] at t1; rw [beq_eq_false_iff_ne]; omega
      exact refParse_p s w hs h0 hx t2 t1 hn
    · exact refParse_m s w hs h0 hx t2 t1 hn
    · exact refParse_d s w hs h0 hx t2 t1 hn
end Go.Proofs.YtkekdcmonenciaaGreatDoor.Kl
