/- Contracts: package integer's Parse. -/
import Derived.Test.YtkekdcmonenciaaGreatDoorKlInt3
namespace Go.Proofs.YtkekdcmonenciaaGreatDoor.Kl
open Go Go.RowKit

/-- What stands behind a sign; without zeros ahead; what Parse answers. -/
def unsign (l : List UInt8) : List UInt8 := if l.head? = some 43 ∨ l.head? = some 45 then l.tail else l
def strip (l : List UInt8) : List UInt8 := l.dropWhile (· == 48)
def parseS (l : List UInt8) : List UInt8 × Int :=
  if l = [] then ([], 13) else
  if digB (unsign l) = false then ([], 15) else
  if 200 < (strip (unsign l)).length then ([], 4) else
  if strip (unsign l) = [] then ([48], 0) else
  if neg l then (45 :: strip (unsign l), 0) else (strip (unsign l), 0)
def unsB (s : ByteArray) : ByteArray := strOf (unsign s.data.toList)
def strB (s : ByteArray) : ByteArray := strOf (strip (unsign s.data.toList))
theorem unsB_data (s : ByteArray) : (unsB s).data.toList = unsign s.data.toList := rfl
theorem unsB_size (s : ByteArray) : (unsB s).size = (unsign s.data.toList).length := strOf_size _
theorem strB_size (s : ByteArray) : (strB s).size = (strip (unsign s.data.toList)).length := strOf_size _
theorem unsign_le (l : List UInt8) : (unsign l).length ≤ l.length := by unfold unsign; split <;> simp
theorem strip_le (l : List UInt8) : (strip l).length ≤ l.length := by unfold strip; exact (List.dropWhile_sublist _).length_le
theorem head_of (s : ByteArray) (h : 0 < s.size) : s.data.toList.head? = some s[0] := by
  obtain ⟨⟨l⟩⟩ := s
  cases l with
  | nil => simp [ByteArray.size] at h
  | cons c r => rfl
theorem ne_of_size (s : ByteArray) (h : 0 < s.size) : s.data.toList ≠ [] := by
  intro e; rw [size_len, e] at h; simp at h
theorem empty_false (s : ByteArray) (h : 0 < s.size) : s.toList.isEmpty = false := by
  rw [Lib.toList_data]
  cases e : s.data.toList with
  | nil => exact absurd e (ne_of_size s h)
  | cons c r => rfl
theorem size_zero_eq (s : ByteArray) (h : s.size = 0) : s = strOf [] := eq_strOf (by rw [size_len, List.length_eq_zero_iff] at h; exact h)
theorem uns_ext (s : ByteArray) (h : 0 < s.size) (c : s[0] = 43 ∨ s[0] = 45) : s.extract 1 s.size = unsB s := by
  apply eq_strOf
  rw [Lib.extract_to_end]
  unfold unsign
  rw [head_of s h, if_pos (by rcases c with c | c <;> simp [c])]
  simp
theorem uns_same (s : ByteArray) (h : 0 < s.size) (c : s[0] ≠ 43) (d : s[0] ≠ 45) : s = unsB s := by
  apply eq_strOf
  unfold unsign
  rw [head_of s h, if_neg (by simp [c, d])]

theorem isDigits_is (s : ByteArray) (w : World) (hs : s.size ≤ 1000000) (b : Bool) (h : digB s.data.toList = b) :
    Calls Tryz.prog 66 #[.string s] w fun e w' => e = .returned (.bool b) ∧ w = w' := by
  rw [← h]; exact isDigits_any s w (by unfold maxLen; omega)
theorem trimLeft_at (s d : ByteArray) (h : d.data.toList = unsign s.data.toList) (w : World) :
    Calls Tryz.prog 67 #[.string d, .string ⟨#[48]⟩] w fun e w' => e = .returned (.string (strB s)) ∧ w = w' :=
  (Tryz.strings_TrimLeft_one d 48 (by decide) w).mono fun _ _ ⟨a, k⟩ => ⟨by rw [a, h]; rfl, k.symm⟩

def ParseEnd (s : ByteArray) : Ending := .returned (.tuple #[.string (strOf (parseS s.data.toList).1), .int .i64 (parseS s.data.toList).2])

theorem pe1 {l : List UInt8} (h : l ≠ []) (h1 : digB (unsign l) = false) : parseS l = ([], 15) := by unfold parseS; rw [if_neg h, if_pos h1]
theorem pe2 {l : List UInt8} (h : l ≠ []) (h1 : digB (unsign l) = true) (h2 : 200 < (strip (unsign l)).length) : parseS l = ([], 4) := by
  unfold parseS; rw [if_neg h, if_neg (by rw [h1]; decide), if_pos h2]
theorem pe3 {l : List UInt8} (h : l ≠ []) (h1 : digB (unsign l) = true) (h2 : strip (unsign l) = []) : parseS l = ([48], 0) := by
  unfold parseS; rw [if_neg h, if_neg (by rw [h1]; decide), if_neg (by rw [h2]; decide), if_pos h2]
theorem pe4 {l : List UInt8} (h : l ≠ []) (h1 : digB (unsign l) = true) (h2 : ¬ 200 < (strip (unsign l)).length) (h3 : strip (unsign l) ≠ []) (h4 : neg l = true) : parseS l = (45 :: strip (unsign l), 0) := by
  unfold parseS; rw [if_neg h, if_neg (by rw [h1]; decide), if_neg h2, if_neg h3, if_pos h4]
theorem pe5 {l : List UInt8} (h : l ≠ []) (h1 : digB (unsign l) = true) (h2 : ¬ 200 < (strip (unsign l)).length) (h3 : strip (unsign l) ≠ []) (h4 : neg l = false) : parseS l = (strip (unsign l), 0) := by
  unfold parseS; rw [if_neg h, if_neg (by rw [h1]; decide), if_neg h2, if_neg h3, if_neg (by rw [h4]; decide)]
theorem cat_minus (l : List UInt8) : (⟨#[45]⟩ : ByteArray) ++ strOf l = strOf (45 :: l) := by
  apply eq_strOf
  simp [strOf]

/-- How a text begins. -/
theorem starts (s : ByteArray) (h0 : 0 < s.size) :
    (s.extract 1 s.size = unsB s ∧ ((s[0].toNat : Int) == 43) = true ∧ neg s.data.toList = false) ∨
    (s.extract 1 s.size = unsB s ∧ ((s[0].toNat : Int) == 43) = false ∧ ((s[0].toNat : Int) == 45) = true ∧ neg s.data.toList = true) ∨
    (s.data.toList = unsign s.data.toList ∧ ((s[0].toNat : Int) == 43) = false ∧ ((s[0].toNat : Int) == 45) = false ∧ neg s.data.toList = false) := by
  rw [neg_of s h0]
  by_cases hp : s[0] = 43
  · exact Or.inl ⟨uns_ext s h0 (Or.inl hp), byte_eq (d := 43) rfl hp, by rw [hp]; rfl⟩
  · by_cases hm : s[0] = 45
    · exact Or.inr (Or.inl ⟨uns_ext s h0 (Or.inr hm), byte_ne (d := 43) rfl hp, byte_eq (d := 45) rfl hm, by rw [hm]; rfl⟩)
    · refine Or.inr (Or.inr ⟨?_, byte_ne (d := 43) rfl hp, byte_ne (d := 45) rfl hm, by simpa using hm⟩)
      have := congrArg (fun x : ByteArray => x.data.toList) (uns_same s h0 hp hm)
      exact this

set_option maxHeartbeats 2000000 in
theorem parse_any (s : ByteArray) (w : World) (hs : s.size ≤ 1000000) :
    Calls Tryz.prog 33 #[.string s] w fun e w' => e = ParseEnd s ∧ w = w' := by
  by_cases h0 : 0 < s.size
  case neg =>
    obtain rfl := size_zero_eq s (by omega)
    unfold strOf
    go_enter Tryz.func33, Tryz.ntmps33
    go_wp2
    go_ret2
    exact ⟨rfl, rfl⟩
  case pos =>
  have he := empty_false s h0
  have HN := Lib.hid (ne_of_size s h0)
  have h0' : (0 : Int) < (s.size : Int) := by omega
  have hus : (unsB s).size ≤ 1000000 := by rw [unsB_size]; have := unsign_le s.data.toList; rw [size_len] at hs; omega
  have hzs : (strB s).size ≤ 1000000 := by rw [strB_size]; have := strip_le (unsign s.data.toList); rw [unsB_size] at hus; omega
  have HU : Hid ((unsB s).data.toList = unsign s.data.toList) := rfl
  cases hd : digB (unsign s.data.toList) with
  | false =>
    have HD := Lib.hid hd
    clear hd
    rcases starts s h0 with ⟨hx, t1, hn⟩ | ⟨hx, t1, t2, hn⟩ | ⟨hx, t1, t2, hn⟩
    · clear hn
      go_enter Tryz.func33, Tryz.ntmps33
      go_wp2_with (go_at_call 66; refine (isDigits_is _ _ hus _ HD.out).mono ?_; rintro e w1 ⟨rfl, rfl⟩)
      go_ret2
      exact ⟨retSI (by rw [pe1 HN.out HD.out]; rfl) (by rw [pe1 HN.out HD.out]), rfl⟩
    · clear hn
      go_enter Tryz.func33, Tryz.ntmps33
      go_wp2_with (go_at_call 66; refine (isDigits_is _ _ hus _ HD.out).mono ?_; rintro e w1 ⟨rfl, rfl⟩)
      go_ret2
      exact ⟨retSI (by rw [pe1 HN.out HD.out]; rfl) (by rw [pe1 HN.out HD.out]), rfl⟩
    · have HX := Lib.hid hx
      clear hn hx
      go_enter Tryz.func33, Tryz.ntmps33
      go_wp2_with (go_at_call 66; refine (isDigits_is _ _ hs false (by rw [HX.out]; exact HD.out)).mono ?_; rintro e w1 ⟨rfl, rfl⟩)
      go_ret2
      exact ⟨retSI (by rw [pe1 HN.out HD.out]; rfl) (by rw [pe1 HN.out HD.out]), rfl⟩
  | true =>
    have HD := Lib.hid hd
    clear hd
    by_cases hz : 200 < (strB s).size
    · have HE := Lib.hid (pe2 HN.out HD.out (by rw [← strB_size]; exact hz))
      rcases starts s h0 with ⟨hx, t1, hn⟩ | ⟨hx, t1, t2, hn⟩ | ⟨hx, t1, t2, hn⟩
      · clear hn
        go_enter Tryz.func33, Tryz.ntmps33
        go_wp2_with (first | (go_at_call 66; refine (isDigits_is _ _ hus _ HD.out).mono ?_; rintro e w1 ⟨rfl, rfl⟩) | (go_at_call 67; refine (trimLeft_at s _ HU.out _).mono ?_; rintro e w1 ⟨rfl, rfl⟩))
        go_ret2
        exact ⟨retSI (by rw [HE.out]; rfl) (by rw [HE.out]), rfl⟩
      · clear hn
        go_enter Tryz.func33, Tryz.ntmps33
        go_wp2_with (first | (go_at_call 66; refine (isDigits_is _ _ hus _ HD.out).mono ?_; rintro e w1 ⟨rfl, rfl⟩) | (go_at_call 67; refine (trimLeft_at s _ HU.out _).mono ?_; rintro e w1 ⟨rfl, rfl⟩))
        go_ret2
        exact ⟨retSI (by rw [HE.out]; rfl) (by rw [HE.out]), rfl⟩
      · have HX := Lib.hid hx
        clear hn hx
        go_enter Tryz.func33, Tryz.ntmps33
        go_wp2_with (first | (go_at_call 66; refine (isDigits_is _ _ hs true (by rw [HX.out]; exact HD.out)).mono ?_; rintro e w1 ⟨rfl, rfl⟩) | (go_at_call 67; refine (trimLeft_at s _ HX.out _).mono ?_; rintro e w1 ⟨rfl, rfl⟩))
        go_ret2
        exact ⟨retSI (by rw [HE.out]; rfl) (by rw [HE.out]), rfl⟩
    · by_cases hzz : (strB s).size = 0
      · have hzl : strip (unsign s.data.toList) = [] := by rw [strB_size, List.length_eq_zero_iff] at hzz; exact hzz
        have HE := Lib.hid (pe3 HN.out HD.out hzl)
        have HZ : Hid (strB s = ⟨#[]⟩) := size_zero_eq _ hzz
        have hz' : (strB s).toList.isEmpty = true := by rw [HZ.out, Lib.toList_data]; rfl
        clear hzl
        rcases starts s h0 with ⟨hx, t1, hn⟩ | ⟨hx, t1, t2, hn⟩ | ⟨hx, t1, t2, hn⟩
        · clear hn
          go_enter Tryz.func33, Tryz.ntmps33
          go_wp2_with (first | (go_at_call 66; refine (isDigits_is _ _ hus _ HD.out).mono ?_; rintro e w1 ⟨rfl, rfl⟩) | (go_at_call 67; refine (trimLeft_at s _ HU.out _).mono ?_; rintro e w1 ⟨rfl, rfl⟩))
          go_ret2
          exact ⟨retSI (by rw [HE.out]; rfl) (by rw [HE.out]), rfl⟩
        · clear hn
          go_enter Tryz.func33, Tryz.ntmps33
          go_wp2_with (first | (go_at_call 66; refine (isDigits_is _ _ hus _ HD.out).mono ?_; rintro e w1 ⟨rfl, rfl⟩) | (go_at_call 67; refine (trimLeft_at s _ HU.out _).mono ?_; rintro e w1 ⟨rfl, rfl⟩))
          go_ret2
          exact ⟨retSI (by rw [HE.out]; rfl) (by rw [HE.out]), rfl⟩
        · have HX := Lib.hid hx
          clear hn hx
          go_enter Tryz.func33, Tryz.ntmps33
          go_wp2_with (first | (go_at_call 66; refine (isDigits_is _ _ hs true (by rw [HX.out]; exact HD.out)).mono ?_; rintro e w1 ⟨rfl, rfl⟩) | (go_at_call 67; refine (trimLeft_at s _ HX.out _).mono ?_; rintro e w1 ⟨rfl, rfl⟩))
          go_ret2
          exact ⟨retSI (by rw [HE.out]; rfl) (by rw [HE.out]), rfl⟩
      · have hzl : strip (unsign s.data.toList) ≠ [] := by intro e; apply hzz; rw [strB_size, e]; rfl
        have hze := empty_false (strB s) (by omega)
        have HL : Hid (¬ 200 < (strip (unsign s.data.toList)).length) := by show ¬ _; rw [← strB_size]; exact hz
        have HZ := Lib.hid hzl
        clear hzl
        rcases starts s h0 with ⟨hx, t1, hn⟩ | ⟨hx, t1, t2, hn⟩ | ⟨hx, t1, t2, hn⟩
        · have t2 : ((s[0].toNat : Int) == 45) = false := by
            rw [beq_iff_eq] at t1; rw [beq_eq_false_iff_ne]; omega
          have HE := Lib.hid (pe5 HN.out HD.out HL.out HZ.out hn)
          clear hn
          go_enter Tryz.func33, Tryz.ntmps33
          go_wp2_with (first | (go_at_call 66; refine (isDigits_is _ _ hus _ HD.out).mono ?_; rintro e w1 ⟨rfl, rfl⟩) | (go_at_call 67; refine (trimLeft_at s _ HU.out _).mono ?_; rintro e w1 ⟨rfl, rfl⟩))
          go_ret2
          exact ⟨retSI (by rw [HE.out]; rfl) (by rw [HE.out]), rfl⟩
        · have HE := Lib.hid (pe4 HN.out HD.out HL.out HZ.out hn)
          clear hn
          go_enter Tryz.func33, Tryz.ntmps33
          go_wp2_with (first | (go_at_call 66; refine (isDigits_is _ _ hus _ HD.out).mono ?_; rintro e w1 ⟨rfl, rfl⟩) | (go_at_call 67; refine (trimLeft_at s _ HU.out _).mono ?_; rintro e w1 ⟨rfl, rfl⟩))
          go_ret2
          exact ⟨retSI (by rw [HE.out]; exact cat_minus _) (by rw [HE.out]), rfl⟩
        · have HX := Lib.hid hx
          have HE := Lib.hid (pe5 HN.out HD.out HL.out HZ.out hn)
          clear hn hx
          go_enter Tryz.func33, Tryz.ntmps33
          go_wp2_with (first | (go_at_call 66; refine (isDigits_is _ _ hs true (by rw [HX.out]; exact HD.out)).mono ?_; rintro e w1 ⟨rfl, rfl⟩) | (go_at_call 67; refine (trimLeft_at s _ HX.out _).mono ?_; rintro e w1 ⟨rfl, rfl⟩))
          go_ret2
          exact ⟨retSI (by rw [HE.out]; rfl) (by rw [HE.out]), rfl⟩
end Go.Proofs.YtkekdcmonenciaaGreatDoor.Kl
