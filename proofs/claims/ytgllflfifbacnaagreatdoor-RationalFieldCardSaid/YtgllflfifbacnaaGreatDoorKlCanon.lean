/- Contracts: package integer's Parse. -/
import Derived.Test.YtgllflfifbacnaaGreatDoorKlInt
namespace Go.Proofs.YtgllflfifbacnaaGreatDoor.Kl
open Go Go.RowKit

/-- What stands behind a sign; without zeros ahead; what Parse answers. -/
def unsign (l : List UInt8) : List UInt8 := if l.head? = some 43 ∨ l.head? = some 45 then l.tail else l
def strip (l : List UInt8) : List UInt8 := l.dropWhile (· == 48)
def parseS (l : List UInt8) : List UInt8 × Int :=
  if l = [] then ([], 13) else
  if digB (unsign l) = false then ([], 15) else
  if 200 < (strip (unsign l)).length then ([], 4) else
  if strip (unsign l) = [] then ([48], 0) else
  if neg l then (45 :: strip (unsign l), 0) else (strip (unsign l), 0)
def unsB (s : ByteArray) : ByteArray := strOf (unsign s.data.toList)
def strB (s : ByteArray) : ByteArray := strOf (strip (unsign s.data.toList))
theorem unsB_size (s : ByteArray) : (unsB s).size = (unsign s.data.toList).length := strOf_size _
theorem strB_size (s : ByteArray) : (strB s).size = (strip (unsign s.data.toList)).length := strOf_size _
theorem unsign_le (l : List UInt8) : (unsign l).length ≤ l.length := by unfold unsign; split <;> simp
theorem strip_le (l : List UInt8) : (strip l).length ≤ l.length := by unfold strip; exact (List.dropWhile_sublist _).length_le
theorem head_of (s : ByteArray) (h : 0 < s.size) : s.data.toList.head? = some s[0] := by
  obtain ⟨⟨l⟩⟩ := s
  cases l with
  | nil => simp [ByteArray.size] at h
  | cons c r => rfl
theorem ne_of_size (s : ByteArray) (h : 0 < s.size) : s.data.toList ≠ [] := by
  intro e; rw [size_len, e] at h; simp at h
theorem empty_false (s : ByteArray) (h : 0 < s.size) : s.toList.isEmpty = false := by
  rw [Lib.toList_data]
  cases e : s.data.toList with
  | nil => exact absurd e (ne_of_size s h)
  | cons c r => rfl
theorem size_zero_eq (s : ByteArray) (h : s.size = 0) : s = strOf [] := eq_strOf (by rw [size_len, List.length_eq_zero_iff] at h; exact h)
theorem uns_ext (s : ByteArray) (h : 0 < s.size) (c : s[0] = 43 ∨ s[0] = 45) : s.extract 1 s.size = unsB s := by
  apply eq_strOf
  rw [Lib.extract_to_end]
  unfold unsign
  rw [head_of s h, if_pos (by rcases c with c | c <;> simp [c])]
  simp
theorem uns_same (s : ByteArray) (h : 0 < s.size) (c : s[0] ≠ 43) (d : s[0] ≠ 45) : s = unsB s := by
  apply eq_strOf
  unfold unsign
  rw [head_of s h, if_neg (by simp [c, d])]

theorem isDigits_is (s : ByteArray) (w : World) (hs : s.size ≤ 1000000) (b : Bool) (h : digB s.data.toList = b) :
    Calls Tryz.prog 119 #[.string s] w fun e w' => e = .returned (.bool b) ∧ w = w' := by
  rw [← h]; exact isDigits_any s w (by unfold maxLen; omega)
theorem trimLeft_at (s d : ByteArray) (h : d.data.toList = unsign s.data.toList) (w : World) :
    Calls Tryz.prog 141 #[.string d, .string ⟨#[48]⟩] w fun e w' => e = .returned (.string (strB s)) ∧ w = w' :=
  (Tryz.strings_TrimLeft_one d 48 (by decide) w).mono fun _ _ ⟨a, k⟩ => ⟨by rw [a, h]; rfl, k.symm⟩

def ParseEnd (s : ByteArray) : Ending := .returned (.tuple #[.string (strOf (parseS s.data.toList).1), .int .i64 (parseS s.data.toList).2])

theorem pe1 {l : List UInt8} (h : l ≠ []) (h1 : digB (unsign l) = false) : parseS l = ([], 15) := by unfold parseS; rw [if_neg h, if_pos h1]
theorem pe2 {l : List UInt8} (h : l ≠ []) (h1 : digB (unsign l) = true) (h2 : 200 < (strip (unsign l)).length) : parseS l = ([], 4) := by
  unfold parseS; rw [if_neg h, if_neg (by rw [h1]; decide), if_pos h2]
theorem pe3 {l : List UInt8} (h : l ≠ []) (h1 : digB (unsign l) = true) (h2 : strip (unsign l) = []) : parseS l = ([48], 0) := by
  unfold parseS; rw [if_neg h, if_neg (by rw [h1]; decide), if_neg (by rw [h2]; decide), if_pos h2]
theorem pe4 {l : List UInt8} (h : l ≠ []) (h1 : digB (unsign l) = true) (h2 : ¬ 200 < (strip (unsign l)).length) (h3 : strip (unsign l) ≠ []) (h4 : neg l = true) : parseS l = (45 :: strip (unsign l), 0) := by
  unfold parseS; rw [if_neg h, if_neg (by rw [h1]; decide), if_neg h2, if_neg h3, if_pos h4]
theorem pe5 {l : List UInt8} (h : l ≠ []) (h1 : digB (unsign l) = true) (h2 : ¬ 200 < (strip (unsign l)).length) (h3 : strip (unsign l) ≠ []) (h4 : neg l = false) : parseS l = (strip (unsign l), 0) := by
  unfold parseS; rw [if_neg h, if_neg (by rw [h1]; decide), if_neg h2, if_neg h3, if_neg (by rw [h4]; decide)]
theorem cat_minus (l : List UInt8) : (⟨#[45]⟩ : ByteArray) ++ strOf l = strOf (45 :: l) := by
  apply eq_strOf
  simp [strOf]

/-- How a text begins. -/
theorem starts (s : ByteArray) (h0 : 0 < s.size) :
    (s.extract 1 s.size = unsB s ∧ ((s[0].toNat : Int) == 43) = true ∧ neg s.data.toList = false) ∨
    (s.extract 1 s.size = unsB s ∧ ((s[0].toNat : Int) == 43) = false ∧ ((s[0].toNat : Int) == 45) = true ∧ neg s.data.toList = true) ∨
    (s.data.toList = unsign s.data.toList ∧ ((s[0].toNat : Int) == 43) = false ∧ ((s[0].toNat : Int) == 45) = false ∧ neg s.data.toList = false) := by
  rw [neg_of s h0]
  by_cases hp : s[0] = 43
  · exact Or.inl ⟨uns_ext s h0 (Or.inl hp), byte_eq (d := 43) rfl hp, by rw [hp]; rfl⟩
  · by_cases hm : s[0] = 45
    · exact Or.inr (Or.inl ⟨uns_ext s h0 (Or.inr hm), byte_ne (d := 43) rfl hp, byte_eq (d := 45) rfl hm, by rw [hm]; rfl⟩)
    · refine Or.inr (Or.inr ⟨?_, byte_ne (d := 43) rfl hp, byte_ne (d := 45) rfl hm, by simpa using hm⟩)
      have := congrArg (fun x : ByteArray => x.data.toList) (uns_same s h0 hp hm)
      exact this

set_option maxHeartbeats 2000000 in
theorem parse_any (s : ByteArray) (w : World) (hs : s.size ≤ 1000000) :
    Calls Tryz.prog 90 #[.string s] w fun e w' => e = ParseEnd s ∧ w = w' := by
  by_cases h0 : 0 < s.size
  case neg =>
    obtain rfl := size_zero_eq s (by omega)
    unfold strOf
    go_enter Tryz.func90, Tryz.ntmps90
    go_wp2
    go_ret2
    exact ⟨rfl, rfl⟩
  case pos =>
  have he := empty_false s h0
  have HN := Lib.hid (ne_of_size s h0)
  have h0' : (0 : Int) < (s.size : Int) := by omega
  have hus : (unsB s).size ≤ 1000000 := by rw [unsB_size]; have := unsign_le s.data.toList; rw [size_len] at hs; omega
  have hzs : (strB s).size ≤ 1000000 := by rw [strB_size]; have := strip_le (unsign s.data.toList); rw [unsB_size] at hus; omega
  have HU : Hid ((unsB s).data.toList = unsign s.data.toList) := rfl
  cases hd : digB (unsign s.data.toList) with
  | false =>
    have HD := Lib.hid hd
    clear hd
    rcases starts s h0 with ⟨hx, t1, hn⟩ | ⟨hx, t1, t2, hn⟩ | ⟨hx, t1, t2, hn⟩
    · clear hn
      go_enter Tryz.func90, Tryz.ntmps90
      go_wp2_with (go_at_call 119; refine (isDigits_is _ _ hus _ HD.out).mono ?_; rintro e w1 ⟨rfl, rfl⟩)
      go_ret2
      exact ⟨retSI (by rw [pe1 HN.out HD.out]; rfl) (by rw [pe1 HN.out HD.out]), rfl⟩
    · clear hn
      go_enter Tryz.func90, Tryz.ntmps90
      go_wp2_with (go_at_call 119; refine (isDigits_is _ _ hus _ HD.out).mono ?_; rintro e w1 ⟨rfl, rfl⟩)
      go_ret2
      exact ⟨retSI (by rw [pe1 HN.out HD.out]; rfl) (by rw [pe1 HN.out HD.out]), rfl⟩
    · have HX := Lib.hid hx
      clear hn hx
      go_enter Tryz.func90, Tryz.ntmps90
      go_wp2_with (go_at_call 119; refine (isDigits_is _ _ hs false (by rw [HX.out]; exact HD.out)).mono ?_; rintro e w1 ⟨rfl, rfl⟩)
      go_ret2
      exact ⟨retSI (by rw [pe1 HN.out HD.out]; rfl) (by rw [pe1 HN.out HD.out]), rfl⟩
  | true =>
    have HD := Lib.hid hd
    clear hd
    by_cases hz : 200 < (strB s).size
    · have HE := Lib.hid (pe2 HN.out HD.out (by rw [← strB_size]; exact hz))
      rcases starts s h0 with ⟨hx, t1, hn⟩ | ⟨hx, t1, t2, hn⟩ | ⟨hx, t1, t2, hn⟩
      · clear hn
        go_enter Tryz.func90, Tryz.ntmps90
        go_wp2_with (first | (go_at_call 119; refine (isDigits_is _ _ hus _ HD.out).mono ?_; rintro e w1 ⟨rfl, rfl⟩) | (go_at_call 141; refine (trimLeft_at s _ HU.out _).mono ?_; rintro e w1 ⟨rfl, rfl⟩))
        go_ret2
        exact ⟨retSI (by rw [HE.out]; rfl) (by rw [HE.out]), rfl⟩
      · clear hn
        go_enter Tryz.func90, Tryz.ntmps90
        go_wp2_with (first | (go_at_call 119; refine (isDigits_is _ _ hus _ HD.out).mono ?_; rintro e w1 ⟨rfl, rfl⟩) | (go_at_call 141; refine (trimLeft_at s _ HU.out _).mono ?_; rintro e w1 ⟨rfl, rfl⟩))
        go_ret2
        exact ⟨retSI (by rw [HE.out]; rfl) (by rw [HE.out]), rfl⟩
      · have HX := Lib.hid hx
        clear hn hx
        go_enter Tryz.func90, Tryz.ntmps90
        go_wp2_with (first | (go_at_call 119; refine (isDigits_is _ _ hs true (by rw [HX.out]; exact HD.out)).mono ?_; rintro e w1 ⟨rfl, rfl⟩) | (go_at_call 141; refine (trimLeft_at s _ HX.out _).mono ?_; rintro e w1 ⟨rfl, rfl⟩))
        go_ret2
        exact ⟨retSI (by rw [HE.out]; rfl) (by rw [HE.out]), rfl⟩
    · by_cases hzz : (strB s).size = 0
      · have hzl : strip (unsign s.data.toList) = [] := by rw [strB_size, List.length_eq_zero_iff] at hzz; exact hzz
        have HE := Lib.hid (pe3 HN.out HD.out hzl)
        have HZ : Hid (strB s = ⟨#[]⟩) := size_zero_eq _ hzz
        have hz' : (strB s).toList.isEmpty = true := by rw [HZ.out, Lib.toList_data]; rfl
        clear hzl
        rcases starts s h0 with ⟨hx, t1, hn⟩ | ⟨hx, t1, t2, hn⟩ | ⟨hx, t1, t2, hn⟩
        · clear hn
          go_enter Tryz.func90, Tryz.ntmps90
          go_wp2_with (first | (go_at_call 119; refine (isDigits_is _ _ hus _ HD.out).mono ?_; rintro e w1 ⟨rfl, rfl⟩) | (go_at_call 141; refine (trimLeft_at s _ HU.out _).mono ?_; rintro e w1 ⟨rfl, rfl⟩))
          go_ret2
          exact ⟨retSI (by rw [HE.out]; rfl) (by rw [HE.out]), rfl⟩
        · clear hn
          go_enter Tryz.func90, Tryz.ntmps90
          go_wp2_with (first | (go_at_call 119; refine (isDigits_is _ _ hus _ HD.out).mono ?_; rintro e w1 ⟨rfl, rfl⟩) | (go_at_call 141; refine (trimLeft_at s _ HU.out _).mono ?_; rintro e w1 ⟨rfl, rfl⟩))
          go_ret2
          exact ⟨retSI (by rw [HE.out]; rfl) (by rw [HE.out]), rfl⟩
        · have HX := Lib.hid hx
          clear hn hx
          go_enter Tryz.func90, Tryz.ntmps90
          go_wp2_with (first | (go_at_call 119; refine (isDigits_is _ _ hs true (by rw [HX.out]; exact HD.out)).mono ?_; rintro e w1 ⟨rfl, rfl⟩) | (go_at_call 141; refine (trimLeft_at s _ HX.out _).mono ?_; rintro e w1 ⟨rfl, rfl⟩))
          go_ret2
          exact ⟨retSI (by rw [HE.out]; rfl) (by rw [HE.out]), rfl⟩
      · have hzl : strip (unsign s.data.toList) ≠ [] := by intro e; apply hzz; rw [strB_size, e]; rfl
        have hze := empty_false (strB s) (by omega)
        have HL : Hid (¬ 200 < (strip (unsign s.data.toList)).length) := by show ¬ _; rw [← strB_size]; exact hz
        have HZ := Lib.hid hzl
        clear hzl
        rcases starts s h0 with ⟨hx, t1, hn⟩ | ⟨hx, t1, t2, hn⟩ | ⟨hx, t1, t2, hn⟩
        · have t2 : ((s[0].toNat : Int) == 45) = false := by
            rw [beq_iff_eq] at t1; rw [beq_eq_false_iff_ne]; omega
          have HE := Lib.hid (pe5 HN.out HD.out HL.out HZ.out hn)
          clear hn
          go_enter Tryz.func90, Tryz.ntmps90
          go_wp2_with (first | (go_at_call 119; refine (isDigits_is _ _ hus _ HD.out).mono ?_; rintro e w1 ⟨rfl, rfl⟩) | (go_at_call 141; refine (trimLeft_at s _ HU.out _).mono ?_; rintro e w1 ⟨rfl, rfl⟩))
          go_ret2
          exact ⟨retSI (by rw [HE.out]; rfl) (by rw [HE.out]), rfl⟩
        · have HE := Lib.hid (pe4 HN.out HD.out HL.out HZ.out hn)
          clear hn
          go_enter Tryz.func90, Tryz.ntmps90
          go_wp2_with (first | (go_at_call 119; refine (isDigits_is _ _ hus _ HD.out).mono ?_; rintro e w1 ⟨rfl, rfl⟩) | (go_at_call 141; refine (trimLeft_at s _ HU.out _).mono ?_; rintro e w1 ⟨rfl, rfl⟩))
          go_ret2
          exact ⟨retSI (by rw [HE.out]; exact cat_minus _) (by rw [HE.out]), rfl⟩
        · have HX := Lib.hid hx
          have HE := Lib.hid (pe5 HN.out HD.out HL.out HZ.out hn)
          clear hn hx
          go_enter Tryz.func90, Tryz.ntmps90
          go_wp2_with (first | (go_at_call 119; refine (isDigits_is _ _ hs true (by rw [HX.out]; exact HD.out)).mono ?_; rintro e w1 ⟨rfl, rfl⟩) | (go_at_call 141; refine (trimLeft_at s _ HX.out _).mono ?_; rintro e w1 ⟨rfl, rfl⟩))
          go_ret2
          exact ⟨retSI (by rw [HE.out]; rfl) (by rw [HE.out]), rfl⟩
end Go.Proofs.YtgllflfifbacnaaGreatDoor.Kl
/- Facts on canonical texts. -/
namespace Go.Proofs.YtgllflfifbacnaaGreatDoor.Kl
open Go Go.RowKit

theorem isDig_lt {c : UInt8} (h : (c.toNat : Int) < 48) : isDig c = false := by
  unfold isDig; simp only [Bool.and_eq_false_iff, decide_eq_false_iff_not]; omega
theorem isDig_gt {c : UInt8} (h : 57 < (c.toNat : Int)) : isDig c = false := by
  unfold isDig; simp only [Bool.and_eq_false_iff, decide_eq_false_iff_not]; omega
theorem isDig_in {c : UInt8} (h : 48 ≤ (c.toNat : Int)) (g : (c.toNat : Int) ≤ 57) : isDig c = true := by
  unfold isDig; simp only [Bool.and_eq_true, decide_eq_true_eq]; omega
theorem canon_nodig {l : List UInt8} (h : digB (mag l) = false) : canonB l = false := by unfold canonB; rw [h]; rfl
theorem all_full {s : ByteArray} (H : (s.data.toList.take s.size).all isDig = true) : s.data.toList.all isDig = true := by
  rwa [List.take_of_length_le (by rw [Array.length_toList]; exact Nat.le_refl _)] at H
theorem digB_of {s : ByteArray} (H : (s.data.toList.take s.size).all isDig = true) (h : 0 < s.size) : digB s.data.toList = true := by
  rw [digB_iff]; exact ⟨all_full H, ne_of_size s h⟩
theorem canon_of {l : List UInt8} (h : digB (mag l) = true) (h48 : (mag l).head? ≠ some 48) : canonB l = true := by
  unfold canonB; rw [h, beq_eq_false_iff_ne.2 h48]; rfl
theorem canon_zero {l : List UInt8} (h : digB (mag l) = true) (h48 : (mag l).head? = some 48) : canonB l = !(neg l || decide (1 < (mag l).length)) := by
  unfold canonB; rw [h, h48]; rfl
theorem canon_no {s m : ByteArray} (hd : m.data.toList = mag s.data.toList) (k : Nat) (h : k < m.size) (d : isDig m[k] = false) : canonB s.data.toList = false :=
  canon_nodig (by rw [← hd]; exact digB_false_at m k h d)
theorem head_eq {m : ByteArray} (h : 0 < m.size) (e : ((m[0].toNat : Int) == 48) = true) : m.data.toList.head? = some 48 := by
  rw [head_of m h]
  have e' : m[0].toNat = 48 := by have := beq_iff_eq.1 e; omega
  congr 1; exact UInt8.toNat.inj e'
theorem head_ne {m : ByteArray} (h : 0 < m.size) (e : ((m[0].toNat : Int) == 48) = false) : m.data.toList.head? ≠ some 48 := by
  rw [head_of m h]
  intro e2
  have e3 := beq_eq_false_iff_ne.1 e
  injection e2 with e2
  apply e3
  rw [e2]; rfl

end Go.Proofs.YtgllflfifbacnaaGreatDoor.Kl
/- Contracts: the reference's Small. -/
namespace Go.Proofs.YtgllflfifbacnaaGreatDoor.Kl
open Go Go.RowKit

theorem val_take_succ (s : ByteArray) (k : Nat) (h : k < s.size) : val (s.data.toList.take (k + 1)) = val (s.data.toList.take k) * 10 + (s[k].toNat - 48) := by
  rw [take_snoc s k h]
  unfold val
  rw [valFrom_append, valFrom_cons, valFrom_nil]
theorem val_take_le (l : List UInt8) (k : Nat) : val (l.take k) ≤ val l := by
  have e : val l = valFrom (val (l.take k)) (l.drop k) := by
    unfold val; rw [← valFrom_append, List.take_append_drop]
  rw [e]; exact le_valFrom _ _
theorem val_full (s : ByteArray) : val (s.data.toList.take s.size) = val s.data.toList := by
  rw [List.take_of_length_le (by rw [Array.length_toList]; exact Nat.le_refl _)]

theorem tdiv_edge (D : Int) (h0 : 0 ≤ D) (h1 : D ≤ 9) : (-9223372036854775808 + D).tdiv 10 = -((9223372036854775808 - D) / 10) := by
  have e : -9223372036854775808 + D = -(9223372036854775808 - D) := by omega
  rw [e, Int.neg_tdiv, Int.tdiv_eq_ediv_of_nonneg (by omega)]

set_option maxRecDepth 100000 in
set_option maxHeartbeats 1000000 in
theorem refSmall_any (s : ByteArray) (w : World) (hs : s.size ≤ 1000000) (hcan : canonB s.data.toList = true) :
    Calls Tryz.prog 149 #[.string s] w fun e w' => e = .returned (.tuple #[.int .i64 (smI s.data.toList), .bool (smB s.data.toList)]) ∧ Below w.heap.size w w' := by
  obtain ⟨b, hn⟩ : ∃ b, neg s.data.toList = b := ⟨_, rfl⟩
  obtain ⟨m, hm⟩ : ∃ m, magB s = m := ⟨_, rfl⟩
  have hd : m.data.toList = mag s.data.toList := by rw [← hm]; rfl
  have hms : m.size ≤ 1000000 := by rw [← hm]; have := magB_le s; omega
  obtain ⟨p1, p2, p3⟩ := canon_parts hcan
  have hv := smallV_canon hcan
  rw [hn, ← hd] at hv
  rw [← hd] at p1 p2 p3
  have h1 : ∀ w, Calls Tryz.prog 71 #[.string s] w fun e w' => e = .returned (.tuple #[.bool b, .string m]) ∧ Below w.heap.size w w' := fun w => by
    have := split_any s w b hn; rwa [hm] at this
  have H1 := Lib.hid h1
  have HV := Lib.hid hv
  have P1 := Lib.hid p1
  have hb := Below.refl w.heap.size w
  by_cases hl : 19 < m.size
  · have hge : 10 ^ (m.data.toList.length - 1) ≤ val m.data.toList := val_ge_of_head p1 p2 (fun e => by have := (p3 e).2; rw [size_len] at hl; omega)
    have hp : 10 ^ 19 ≤ 10 ^ (m.data.toList.length - 1) := Nat.pow_le_pow_right (by decide) (by rw [← size_len]; omega)
    have hq : 9223372036854775808 < 10 ^ 19 := by decide
    have hnone : smallV s.data.toList = none := by
      have g0 : 9223372036854775808 < val m.data.toList := Nat.lt_of_lt_of_le hq (Nat.le_trans hp hge)
      have g1 : ¬ val m.data.toList ≤ 9223372036854775808 := Nat.not_le.2 g0
      have g2 : ¬ val m.data.toList < 9223372036854775808 := fun h => g1 (Nat.le_of_lt h)
      rw [hv, if_neg g1, if_neg g2]; split <;> rfl
    have HN := Lib.hid hnone
    clear hge hp hq hnone hv h1 p1 p2 p3 hcan hd hm hn
    go_enter Tryz.func149, Tryz.ntmps149
    go_wp2_with (go_at_call 71; refine (chain hb (H1.out _)).mono ?_; clear hb; rintro e w1 ⟨rfl, hb⟩)
    go_ret2
    exact ⟨retIB (by unfold smI; rw [HN.out]; rfl) (by unfold smB; rw [HN.out]; rfl), hb⟩
  · clear hv h1 p1 p2 p3 hcan hd hm hn
    go_enter Tryz.func149, Tryz.ntmps149
    go_wp2_with (go_at_call 71; refine (chain hb (H1.out _)).mono ?_; clear hb; rintro e w1 ⟨rfl, hb⟩)
    go_loop [6, 7] (fun x i => ∃ k : Nat, k ≤ m.size ∧ i = .int .i64 k ∧ x = .int .i64 (-(val (m.data.toList.take k) : Int)) ∧ val (m.data.toList.take k) ≤ 9223372036854775808) (fun _ i => m.size - (intOf i).toNat)
    case atStart => exact ⟨0, Nat.zero_le _, rfl, rfl, by simp [val, valFrom]⟩
    case round =>
      obtain ⟨k, hk, rfl, rfl, hle⟩ := hrel
      by_cases hlt : k < m.size
      · have hdig : isDig m[k] = true := by
          have := List.all_eq_true.1 P1.out m[k] (List.mem_of_getElem (i := k) (h := by simpa using hlt) rfl)
          exact this
        have hd1 := isDig_iff.1 hdig
        have HD := Lib.hid hdig
        clear hdig
        obtain ⟨V, hV⟩ : ∃ V, val (m.data.toList.take k) = V := ⟨_, rfl⟩
        rw [hV] at hle ⊢
        have HVV := Lib.hid hV
        clear hV
        have e10 := tdiv_edge ((m[k].toNat : Int) - 48) (by omega) (by omega)
        have hvs : val (m.data.toList.take (k + 1)) = V * 10 + (m[k].toNat - 48) := by rw [val_take_succ m k hlt, HVV.out]
        by_cases hov : 9223372036854775808 < V * 10 + (m[k].toNat - 48)
        · have hT : -(V : Int) < (-9223372036854775808 + ((m[k].toNat : Int) - 48)).tdiv 10 := by rw [e10]; omega
          have hbig : 9223372036854775808 < val m.data.toList := by
            have := val_take_le m.data.toList (k + 1); omega
          have hnone : smallV s.data.toList = none := by
            have g1 : ¬ val m.data.toList ≤ 9223372036854775808 := Nat.not_le.2 hbig
            have g2 : ¬ val m.data.toList < 9223372036854775808 := fun h => g1 (Nat.le_of_lt h)
            rw [HV.out, if_neg g1, if_neg g2]; split <;> rfl
          have HN := Lib.hid hnone
          clear e10 hvs hov hbig hnone
          go_wp2
          go_ret2
          exact ⟨retIB (by unfold smI; rw [HN.out]; rfl) (by unfold smB; rw [HN.out]; rfl), hb⟩
        · have hT : (-9223372036854775808 + ((m[k].toNat : Int) - 48)).tdiv 10 ≤ -(V : Int) := by rw [e10]; omega
          have hI : 10 * (V : Int) + ((m[k].toNat : Int) - 48) ≤ 9223372036854775808 := by omega
          have HS := Lib.hid hvs
          clear e10 hvs hov
          go_wp2
          go_round
          case rel => exact ⟨k + 1, by omega, by go_num, by rw [HS.out]; go_num, by rw [HS.out]; omega⟩
          case measure => simp [intOf]; omega
      · obtain rfl : k = m.size := by omega
        obtain ⟨V, hV⟩ : ∃ V, val (m.data.toList.take m.size) = V := ⟨_, rfl⟩
        have hV2 := hV
        rw [val_full] at hV2
        have hv := HV.out
        rw [hV2] at hv
        rw [hV] at hle ⊢
        clear hV hV2
        cases b with
        | true =>
          rw [if_pos rfl, if_pos hle] at hv
          have HN := Lib.hid hv
          clear hv
          go_wp2
          go_ret2
          exact ⟨retIB (by unfold smI; rw [HN.out]; rfl) (by unfold smB; rw [HN.out]; rfl), hb⟩
        | false =>
          rw [if_neg (by decide)] at hv
          by_cases hq : V < 9223372036854775808
          · rw [if_pos hq] at hv
            have hne : (-(V : Int) == -9223372036854775808) = false := by rw [beq_eq_false_iff_ne]; omega
            have HN := Lib.hid hv
            clear hv
            go_wp2
            go_ret2
            exact ⟨retIB (by unfold smI; rw [HN.out]; simp) (by unfold smB; rw [HN.out]; rfl), hb⟩
          · rw [if_neg hq] at hv
            obtain rfl : V = 9223372036854775808 := by omega
            have HN := Lib.hid hv
            clear hv
            go_wp2
            go_ret2
            exact ⟨retIB (by unfold smI; rw [HN.out]; rfl) (by unfold smB; rw [HN.out]; rfl), hb⟩
end Go.Proofs.YtgllflfifbacnaaGreatDoor.Kl
/- Contracts: Check, and the reference's Canonical and Right. -/
namespace Go.Proofs.YtgllflfifbacnaaGreatDoor.Kl
open Go Go.RowKit

set_option maxRecDepth 100000 in
set_option maxHeartbeats 1000000 in
theorem canonical_any (s : ByteArray) (w : World) (hs : s.size ≤ 1000000) :
    Calls Tryz.prog 72 #[.string s] w fun e w' => e = .returned (.bool (canonB s.data.toList)) ∧ Below w.heap.size w w' := by
  obtain ⟨b, hn⟩ : ∃ b, neg s.data.toList = b := ⟨_, rfl⟩
  have HN := Lib.hid hn
  obtain ⟨m, hm⟩ : ∃ m, magB s = m := ⟨_, rfl⟩
  have hd : m.data.toList = mag s.data.toList := by rw [← hm]; rfl
  have hms : m.size ≤ 1000000 := by rw [← hm]; have := magB_le s; omega
  have HD := Lib.hid hd
  have HM := Lib.hid hm
  clear hn hm hd
  have hb := Below.refl w.heap.size w
  have h1 : ∀ w, Calls Tryz.prog 71 #[.string s] w fun e w' => e = .returned (.tuple #[.bool b, .string m]) ∧ Below w.heap.size w w' := fun w => by
    have := split_any s w b HN.out; rwa [HM.out] at this
  have H1 := Lib.hid h1
  clear h1
  go_enter Tryz.func72, Tryz.ntmps72
  go_wp2_with (go_at_call 71; refine (chain hb (H1.out _)).mono ?_; clear hb; rintro e w1 ⟨rfl, hb⟩)
  obtain ⟨wo, rfl⟩ : ∃ wo, w1 = wo := ⟨_, rfl⟩
  go_loop [5] (fun i => ∃ k : Nat, k ≤ m.size ∧ i = .int .i64 k ∧ (m.data.toList.take k).all isDig = true) (fun i => m.size - (intOf i).toNat)
  case atStart => exact ⟨0, Nat.zero_le _, rfl, rfl⟩
  case round =>
    obtain ⟨k, hk, rfl, hall⟩ := hrel
    have HA := Lib.hid hall
    clear hall
    by_cases hlt : k < m.size
    · go_wp2
      · have hx : (m[k].toNat : Int) < 48 ∨ 57 < (m[k].toNat : Int) := by assumption
        go_ret
        exact ⟨retB (canon_no HD.out k hlt (hx.elim isDig_lt isDig_gt)).symm, hb⟩
      · have hx : 48 ≤ (m[k].toNat : Int) ∧ (m[k].toNat : Int) ≤ 57 := by assumption
        go_round
        case rel => exact ⟨k + 1, by omega, by go_num, all_step m k hlt HA.out (isDig_in hx.1 hx.2)⟩
        case measure => simp [intOf]; omega
      · have hx : (m[k].toNat : Int) < 48 := by assumption
        go_ret
        exact ⟨retB (canon_no HD.out k hlt (isDig_lt hx)).symm, hb⟩
    · obtain rfl : k = m.size := by omega
      by_cases hz : m.size = 0
      · have hr : canonB s.data.toList = false := canon_nodig (by rw [← HD.out, (size_zero_eq m hz)]; rfl)
        have HR := Lib.hid hr
        clear hr
        go_wp2
        go_ret
        exact ⟨retB HR.out.symm, hb⟩
      · have hpos : 0 < m.size := by omega
        have hdg : digB (mag s.data.toList) = true := by rw [← HD.out]; exact digB_of HA.out hpos
        have hml : (mag s.data.toList).length = m.size := by rw [← HD.out, size_len]
        by_cases h48 : ((m[0].toNat : Int) == 48) = true
        · have hr := canon_zero hdg (by rw [← HD.out]; exact head_eq hpos h48)
          rw [HN.out, hml] at hr
          have HR := Lib.hid hr
          clear hr hml hdg
          cases b with
          | true =>
            go_wp2
            go_ret
            exact ⟨retB HR.out.symm, hb⟩
          | false =>
            by_cases h1 : 1 < m.size
            · have h2 : decide ((1 : Int) < (m.size : Int)) = true := decide_eq_true (by omega)
              go_wp2
              go_ret
              exact ⟨retB (by rw [HR.out, decide_eq_true h1]; rfl), hb⟩
            · have h2 : decide ((1 : Int) < (m.size : Int)) = false := decide_eq_false (by omega)
              go_wp2
              go_ret
              exact ⟨retB (by rw [HR.out, decide_eq_false h1]; rfl), hb⟩
        · have h48' : ((m[0].toNat : Int) == 48) = false := by simpa using h48
          have hr := canon_of hdg (by rw [← HD.out]; exact head_ne hpos h48')
          have HR := Lib.hid hr
          clear hr hml hdg h48
          go_wp2
          go_ret
          exact ⟨retB HR.out.symm, hb⟩

theorem canonical_is (s : ByteArray) (w : World) (hs : s.size ≤ 1000000) (b : Bool) (h : canonB s.data.toList = b) :
    Calls Tryz.prog 72 #[.string s] w fun e w' => e = .returned (.bool b) ∧ Below w.heap.size w w' := by
  rw [← h]; exact canonical_any s w hs
theorem split_is (s : ByteArray) (w : World) :
    Calls Tryz.prog 71 #[.string s] w fun e w' => e = .returned (.tuple #[.bool (neg s.data.toList), .string (magB s)]) ∧ Below w.heap.size w w' := split_any s w _ rfl

set_option maxRecDepth 100000 in
set_option maxHeartbeats 1000000 in
theorem right_any (s : ByteArray) (w : World) (hs : s.size ≤ 1000000) (r : Bool) (hr : rightB s.data.toList = r) :
    Calls Tryz.prog 21 #[.string s] w fun e w' => e = .returned (.bool r) ∧ Below w.heap.size w w' := by
  have HR := Lib.hid hr
  clear hr
  have hb := Below.refl w.heap.size w
  have hm := magB_le s
  cases hc : canonB s.data.toList with
  | false =>
    have HC := Lib.hid hc
    clear hc
    go_enter Tryz.func21, Tryz.ntmps21
    go_wp2_with (first | (go_at_call 71; refine (chain hb (split_is _ _)).mono ?_; clear hb; rintro e w1 ⟨rfl, hb⟩) | (go_at_call 72; refine (chain hb (canonical_is _ _ hs _ HC.out)).mono ?_; clear hb; rintro e w1 ⟨rfl, hb⟩))
    go_ret
    exact ⟨retB (by rw [← HR.out]; unfold rightB; rw [HC.out]; rfl), hb⟩
  | true =>
    have HC := Lib.hid hc
    clear hc
    by_cases hl : (magB s).size ≤ 200
    · have h2 : decide (((magB s).size : Int) ≤ 200) = true := decide_eq_true (by omega)
      go_enter Tryz.func21, Tryz.ntmps21
      go_wp2_with (first | (go_at_call 71; refine (chain hb (split_is _ _)).mono ?_; clear hb; rintro e w1 ⟨rfl, hb⟩) | (go_at_call 72; refine (chain hb (canonical_is _ _ hs _ HC.out)).mono ?_; clear hb; rintro e w1 ⟨rfl, hb⟩))
      go_ret
      exact ⟨retB (by rw [← HR.out]; unfold rightB; rw [HC.out, ← magB_size, decide_eq_true hl]; rfl), hb⟩
    · have h2 : decide (((magB s).size : Int) ≤ 200) = false := decide_eq_false (by omega)
      go_enter Tryz.func21, Tryz.ntmps21
      go_wp2_with (first | (go_at_call 71; refine (chain hb (split_is _ _)).mono ?_; clear hb; rintro e w1 ⟨rfl, hb⟩) | (go_at_call 72; refine (chain hb (canonical_is _ _ hs _ HC.out)).mono ?_; clear hb; rintro e w1 ⟨rfl, hb⟩))
      go_ret
      exact ⟨retB (by rw [← HR.out]; unfold rightB; rw [HC.out, ← magB_size, decide_eq_false hl]; rfl), hb⟩

end Go.Proofs.YtgllflfifbacnaaGreatDoor.Kl
