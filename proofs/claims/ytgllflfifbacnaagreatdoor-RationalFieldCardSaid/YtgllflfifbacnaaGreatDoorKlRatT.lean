/- Contracts: package rational's Parse. -/
import Derived.Test.YtgllflfifbacnaaGreatDoorKlRatP
import Derived.Lib.SlTrimSet
import Derived.Shelf.Strings.SlTrimAscii
namespace Go.Proofs.YtgllflfifbacnaaGreatDoor.Kl
open Go Go.RowKit

theorem nil_beq (l : List UInt8) : (l == []) = l.isEmpty := by cases l <;> rfl
theorem dig_mem (c : UInt8) : ([48, 49, 50, 51, 52, 53, 54, 55, 56, 57] : List UInt8).contains c = isDig c := by
  rw [Bool.eq_iff_iff, List.contains_iff_mem, isDig_iff]
  constructor
  · intro h
    simp only [List.mem_cons, List.not_mem_nil, or_false] at h
    rcases h with rfl | rfl | rfl | rfl | rfl | rfl | rfl | rfl | rfl | rfl <;> decide
  · rintro ⟨h1, h2⟩
    have e : c = UInt8.ofNat c.toNat := by simp
    obtain ⟨n, hn⟩ : ∃ n, c.toNat = n := ⟨_, rfl⟩
    rw [hn] at h1 h2 e
    have : n = 48 ∨ n = 49 ∨ n = 50 ∨ n = 51 ∨ n = 52 ∨ n = 53 ∨ n = 54 ∨ n = 55 ∨ n = 56 ∨ n = 57 := by omega
    rcases this with rfl | rfl | rfl | rfl | rfl | rfl | rfl | rfl | rfl | rfl <;> (rw [e]; decide)
theorem trim_digs : ∀ l : List UInt8, (l.dropWhile ([48, 49, 50, 51, 52, 53, 54, 55, 56, 57].contains ·) = []) ↔ l.all isDig = true
  | [] => by simp
  | c :: r => by
    rw [List.dropWhile_cons, dig_mem, List.all_cons]
    cases isDig c
    · simp
    · simpa using trim_digs r
theorem trimDigs_call (s : ByteArray) (w : World) :
    Calls Tryz.prog 141 #[.string s, .string ⟨#[48, 49, 50, 51, 52, 53, 54, 55, 56, 57]⟩] w fun e w' => e = .returned (.string (strOf (s.data.toList.dropWhile ([48, 49, 50, 51, 52, 53, 54, 55, 56, 57].contains ·)))) ∧ Below w.heap.size w w' :=
  Any.strings_TrimLeft_laid Tryz.lays161 (by kernel_rfl) s ⟨#[48, 49, 50, 51, 52, 53, 54, 55, 56, 57]⟩ w (by decide) (fun j b h => by
    have := List.mem_of_getElem? h
    simp only [List.mem_cons, List.not_mem_nil, or_false] at this
    rcases this with rfl | rfl | rfl | rfl | rfl | rfl | rfl | rfl | rfl | rfl <;> decide)
set_option maxRecDepth 100000 in
set_option maxHeartbeats 200000 in
theorem rdig_empty (s : ByteArray) (h : (s.toList == []) = true) (w : World) (_R : EnvR w) :
    Calls Tryz.prog 89 #[.string s] w fun e w' => e = .returned (.bool false) ∧ Below w.heap.size w w' := by
  have hb := Below.refl w.heap.size w
  go_enter Tryz.func89, Tryz.ntmps89
  go_wp2
  go_ret
  exact ⟨rfl, hb⟩
set_option maxRecDepth 100000 in
set_option maxHeartbeats 200000 in
theorem rdig_some (s t : ByteArray) (b : Bool) (h : (s.toList == []) = false) (ht : (t.toList == []) = b) (hc : ∀ w, Calls Tryz.prog 141 #[.string s, .string ⟨#[48, 49, 50, 51, 52, 53, 54, 55, 56, 57]⟩] w fun e w' => e = .returned (.string t) ∧ Below w.heap.size w w') (w : World) (R : EnvR w) :
    Calls Tryz.prog 89 #[.string s] w fun e w' => e = .returned (.bool b) ∧ Below w.heap.size w w' := by
  have c1 : ∀ w, EnvR w → Calls Tryz.prog 141 #[.string s, .string ⟨#[48, 49, 50, 51, 52, 53, 54, 55, 56, 57]⟩] w fun e w' => e = .returned (.string t) ∧ Below w.heap.size w w' := fun w R => hc w
  have C1 := Lib.hid c1
  clear c1 hc
  subst ht
  have hb := Below.refl w.heap.size w
  go_enter Tryz.func89, Tryz.ntmps89
  go_wp2_with (go_at_call 141; ((with_reducible refine (chain hb (C1.out _ (R.below hb))).mono ?_); clear hb; rintro e w1 ⟨rfl, hb⟩))
  go_ret
  exact ⟨retB (nil_beq _).symm, hb⟩
theorem risDigits_any (s : ByteArray) (b : Bool) (h : digB s.data.toList = b) (w : World) (R : EnvR w) :
    Calls Tryz.prog 89 #[.string s] w fun e w' => e = .returned (.bool b) ∧ Below w.heap.size w w' := by
  subst h
  by_cases he : s.data.toList = []
  · have e : digB s.data.toList = false := by rw [he]; rfl
    rw [e]
    exact rdig_empty s (by rw [Lib.toList_data, he]; rfl) w R
  · have e : (s.data.toList == []) = false := by rw [beq_eq_false_iff_ne]; exact he
    refine rdig_some s _ _ (by rw [Lib.toList_data]; exact e) ?_ (fun w => trimDigs_call s w) w R
    rw [Lib.toList_data]
    show (s.data.toList.dropWhile _ == []) = _
    rw [Bool.eq_iff_iff, beq_iff_eq, trim_digs, digB_iff]
    exact ⟨fun h => ⟨h, he⟩, fun h => h.1⟩
theorem rep48 : ∀ n : Nat, Lib.repeatL [48] n = List.replicate n 48
  | 0 => rfl
  | n + 1 => by rw [Lib.repeatL, rep48 n, List.replicate_succ]; rfl
theorem repeat_call (n : Nat) (hn : n ≤ 1000000) (w : World) :
    Calls Tryz.prog 27 #[.string ⟨#[48]⟩, .int .i64 (n : Int)] w fun e w' => e = .returned (.string (strOf (List.replicate n 48))) ∧ Below w.heap.size w w' :=
  (Tryz.strings_Repeat ⟨#[48]⟩ n w (by omega) (by show 1 * n ≤ _; omega)).mono fun _ _ ⟨a, b⟩ => ⟨a.trans (retS (by rw [rep48]; rfl)), b⟩
set_option maxRecDepth 100000 in
set_option maxHeartbeats 200000 in
theorem dec_n (s a b z : ByteArray)  (hc : ∀ w, EnvR w → Calls Tryz.prog 64 #[.string s, .string ⟨#[46]⟩] w fun e w' => e = .returned (.tuple #[.string b, .string a, .bool false]) ∧ Below w.heap.size w w') (hz : ∀ w, EnvR w → Calls Tryz.prog 27 #[.string ⟨#[48]⟩, .int .i64 (a.size : Int)] w fun e w' => e = .returned (.string z) ∧ Below w.heap.size w w') (ha : a.size ≤ 1000000) (hbs : b.size ≤ 1000000) (hzs : z.size ≤ 1000000) (w : World) (R : EnvR w) :
    Calls Tryz.prog 88 #[.string s] w fun e w' => e = .returned (.tuple #[.string (b ++ a), .string (⟨#[49]⟩ ++ z)]) ∧ Below w.heap.size w w' := by
  have c1 : ∀ w, EnvR w → Calls Tryz.prog 64 #[.string s, .string ⟨#[46]⟩] w fun e w' => e = .returned (.tuple #[.string b, .string a, .bool false]) ∧ Below w.heap.size w w' := fun w R => hc w R
  have c2 : ∀ w, EnvR w → Calls Tryz.prog 27 #[.string ⟨#[48]⟩, .int .i64 (a.size : Int)] w fun e w' => e = .returned (.string z) ∧ Below w.heap.size w w' := fun w R => hz w R
  have C1 := Lib.hid c1
  have C2 := Lib.hid c2
  clear c1 c2 hc hz
  have hb := Below.refl w.heap.size w
  go_enter Tryz.func88, Tryz.ntmps88
  go_wp2_with (first | (go_at_call 64; ((with_reducible refine (chain hb (C1.out _ (R.below hb))).mono ?_); clear hb; rintro e w1 ⟨rfl, hb⟩)) | (go_at_call 27; ((with_reducible refine (chain hb (C2.out _ (R.below hb))).mono ?_); clear hb; rintro e w1 ⟨rfl, hb⟩)))
  go_ret2
  exact ⟨rfl, hb⟩
set_option maxRecDepth 100000 in
set_option maxHeartbeats 200000 in
theorem dec_b (s a b : ByteArray) (h1 : (b.toList == []) = true) (hc : ∀ w, EnvR w → Calls Tryz.prog 64 #[.string s, .string ⟨#[46]⟩] w fun e w' => e = .returned (.tuple #[.string b, .string a, .bool true]) ∧ Below w.heap.size w w')  (w : World) (R : EnvR w) :
    Calls Tryz.prog 88 #[.string s] w fun e w' => e = .returned (.tuple #[.string ⟨#[]⟩, .string ⟨#[]⟩]) ∧ Below w.heap.size w w' := by
  have c1 : ∀ w, EnvR w → Calls Tryz.prog 64 #[.string s, .string ⟨#[46]⟩] w fun e w' => e = .returned (.tuple #[.string b, .string a, .bool true]) ∧ Below w.heap.size w w' := fun w R => hc w R
  have C1 := Lib.hid c1
  clear c1 hc
  have hb := Below.refl w.heap.size w
  go_enter Tryz.func88, Tryz.ntmps88
  go_wp2_with (go_at_call 64; ((with_reducible refine (chain hb (C1.out _ (R.below hb))).mono ?_); clear hb; rintro e w1 ⟨rfl, hb⟩))
  go_ret2
  exact ⟨rfl, hb⟩
set_option maxRecDepth 100000 in
set_option maxHeartbeats 200000 in
theorem dec_a (s a b : ByteArray) (h1 : (b.toList == []) = false) (h2 : (a.toList == []) = true) (hc : ∀ w, EnvR w → Calls Tryz.prog 64 #[.string s, .string ⟨#[46]⟩] w fun e w' => e = .returned (.tuple #[.string b, .string a, .bool true]) ∧ Below w.heap.size w w')  (w : World) (R : EnvR w) :
    Calls Tryz.prog 88 #[.string s] w fun e w' => e = .returned (.tuple #[.string ⟨#[]⟩, .string ⟨#[]⟩]) ∧ Below w.heap.size w w' := by
  have c1 : ∀ w, EnvR w → Calls Tryz.prog 64 #[.string s, .string ⟨#[46]⟩] w fun e w' => e = .returned (.tuple #[.string b, .string a, .bool true]) ∧ Below w.heap.size w w' := fun w R => hc w R
  have C1 := Lib.hid c1
  clear c1 hc
  have hb := Below.refl w.heap.size w
  go_enter Tryz.func88, Tryz.ntmps88
  go_wp2_with (go_at_call 64; ((with_reducible refine (chain hb (C1.out _ (R.below hb))).mono ?_); clear hb; rintro e w1 ⟨rfl, hb⟩))
  go_ret2
  exact ⟨rfl, hb⟩
set_option maxRecDepth 100000 in
set_option maxHeartbeats 200000 in
theorem dec_y (s a b z : ByteArray) (h1 : (b.toList == []) = false) (h2 : (a.toList == []) = false) (hc : ∀ w, EnvR w → Calls Tryz.prog 64 #[.string s, .string ⟨#[46]⟩] w fun e w' => e = .returned (.tuple #[.string b, .string a, .bool true]) ∧ Below w.heap.size w w') (hz : ∀ w, EnvR w → Calls Tryz.prog 27 #[.string ⟨#[48]⟩, .int .i64 (a.size : Int)] w fun e w' => e = .returned (.string z) ∧ Below w.heap.size w w') (ha : a.size ≤ 1000000) (hbs : b.size ≤ 1000000) (hzs : z.size ≤ 1000000) (w : World) (R : EnvR w) :
    Calls Tryz.prog 88 #[.string s] w fun e w' => e = .returned (.tuple #[.string (b ++ a), .string (⟨#[49]⟩ ++ z)]) ∧ Below w.heap.size w w' := by
  have c1 : ∀ w, EnvR w → Calls Tryz.prog 64 #[.string s, .string ⟨#[46]⟩] w fun e w' => e = .returned (.tuple #[.string b, .string a, .bool true]) ∧ Below w.heap.size w w' := fun w R => hc w R
  have c2 : ∀ w, EnvR w → Calls Tryz.prog 27 #[.string ⟨#[48]⟩, .int .i64 (a.size : Int)] w fun e w' => e = .returned (.string z) ∧ Below w.heap.size w w' := fun w R => hz w R
  have C1 := Lib.hid c1
  have C2 := Lib.hid c2
  clear c1 c2 hc hz
  have hb := Below.refl w.heap.size w
  go_enter Tryz.func88, Tryz.ntmps88
  go_wp2_with (first | (go_at_call 64; ((with_reducible refine (chain hb (C1.out _ (R.below hb))).mono ?_); clear hb; rintro e w1 ⟨rfl, hb⟩)) | (go_at_call 27; ((with_reducible refine (chain hb (C2.out _ (R.below hb))).mono ?_); clear hb; rintro e w1 ⟨rfl, hb⟩)))
  go_ret2
  exact ⟨rfl, hb⟩
/-- What the program makes of digits with or without a point: numerator and denominator. -/
def decL (l : List UInt8) : List UInt8 × List UInt8 :=
  let c := Lib.cut l [46]
  if c.2.2 = true ∧ (c.1 = [] ∨ c.2.1 = []) then ([], []) else (c.1 ++ c.2.1, 49 :: List.replicate c.2.1.length 48)
theorem cut_len (l sep : List UInt8) : (Lib.cut l sep).1.length ≤ l.length ∧ (Lib.cut l sep).2.1.length ≤ l.length := by
  unfold Lib.cut
  split
  · exact ⟨by rw [List.length_take]; omega, by rw [List.length_drop]; omega⟩
  · simp
theorem cat_data (a b : ByteArray) : (a ++ b).data.toList = a.data.toList ++ b.data.toList := by
  rw [ByteArray.data_append, Array.toList_append]
theorem decimal_any (s : ByteArray) (hs : s.size ≤ 400000) (w : World) (R : EnvR w) :
    Calls Tryz.prog 88 #[.string s] w fun e w' => e = .returned (.tuple #[.string (strOf (decL s.data.toList).1), .string (strOf (decL s.data.toList).2)]) ∧ Below w.heap.size w w' := by
  obtain ⟨b, a, f, hcut⟩ : ∃ b a f, Lib.cut s.data.toList [46] = (b, a, f) := ⟨_, _, _, rfl⟩
  have hl := cut_len s.data.toList [46]
  rw [hcut, ← size_len] at hl
  have hc : ∀ w, EnvR w → Calls Tryz.prog 64 #[.string s, .string ⟨#[46]⟩] w fun e w' => e = .returned (.tuple #[.string (strOf b), .string (strOf a), .bool f]) ∧ Below w.heap.size w w' := fun w R => cut_call s ⟨#[46]⟩ _ _ _ hcut (by omega) w R
  have hz : ∀ w, EnvR w → Calls Tryz.prog 27 #[.string ⟨#[48]⟩, .int .i64 ((strOf a).size : Int)] w fun e w' => e = .returned (.string (strOf (List.replicate a.length 48))) ∧ Below w.heap.size w w' := fun w R => by
    rw [strOf_size]; exact repeat_call _ (by have := hl.2; simp only at this; omega) w
  have z1 : (strOf a).size ≤ 1000000 := by rw [strOf_size]; have := hl.2; simp only at this; omega
  have z2 : (strOf b).size ≤ 1000000 := by rw [strOf_size]; have := hl.1; simp only at this; omega
  have z3 : (strOf (List.replicate a.length (48 : UInt8))).size ≤ 1000000 := by rw [strOf_size, List.length_replicate]; have := hl.2; simp only at this; omega
  have fin : decL s.data.toList = (if f = true ∧ (b = [] ∨ a = []) then ([], []) else (b ++ a, 49 :: List.replicate a.length 48)) := by unfold decL; rw [hcut]
  rw [fin]
  have key : strOf (b ++ a) = strOf b ++ strOf a ∧ strOf (49 :: List.replicate a.length 48) = ⟨#[49]⟩ ++ strOf (List.replicate a.length 48) :=
    ⟨dat_inj (by rw [cat_data]; rfl), dat_inj (by rw [cat_data]; rfl)⟩
  cases f with
  | false =>
    rw [if_neg (by simp)]
    show Calls _ _ _ _ fun e w' => e = .returned (.tuple #[.string (strOf (b ++ a)), .string (strOf (49 :: List.replicate a.length 48))]) ∧ _
    rw [key.1, key.2]
    exact dec_n s _ _ _ hc hz z1 z2 z3 w R
  | true =>
    by_cases h1 : b = []
    · rw [if_pos ⟨rfl, Or.inl h1⟩]
      exact dec_b s _ _ (by rw [Lib.toList_data]; show (b == []) = true; rw [h1]; rfl) hc w R
    · have e1 : ((strOf b).toList == []) = false := by rw [Lib.toList_data, beq_eq_false_iff_ne]; exact h1
      by_cases h2 : a = []
      · rw [if_pos ⟨rfl, Or.inr h2⟩]
        exact dec_a s _ _ e1 (by rw [Lib.toList_data]; show (a == []) = true; rw [h2]; rfl) hc w R
      · have e2 : ((strOf a).toList == []) = false := by rw [Lib.toList_data, beq_eq_false_iff_ne]; exact h2
        rw [if_neg (by rintro ⟨_, h | h⟩; exact h1 h; exact h2 h)]
        show Calls _ _ _ _ fun e w' => e = .returned (.tuple #[.string (strOf (b ++ a)), .string (strOf (49 :: List.replicate a.length 48))]) ∧ _
        rw [key.1, key.2]
        exact dec_y s _ _ _ e1 e2 hc hz z1 z2 z3 w R
set_option maxRecDepth 100000 in
set_option maxHeartbeats 1000000 in
theorem parse_nfn (s n0 d0 : ByteArray) (h0 : 0 < s.size) (hs : s.size ≤ 1000000) (_hn0 : n0.size ≤ 1000000) (hp : ((s[0].toNat : Int) == 43) = false) (hm : ((s[0].toNat : Int) == 45) = false) (c1' : ∀ w, EnvR w → Calls Tryz.prog 64 #[.string s, .string ⟨#[47]⟩] w fun e w' => e = .returned (.tuple #[.string n0, .string d0, .bool true]) ∧ Below w.heap.size w w') (c2' : ∀ w, EnvR w → Calls Tryz.prog 89 #[.string n0] w fun e w' => e = .returned (.bool false) ∧ Below w.heap.size w w') (w : World) (R : EnvR w) :
    Calls Tryz.prog 28 #[.string s] w fun e w' => e = .returned (.tuple #[.string ⟨#[]⟩, .int .i64 15]) ∧ Below w.heap.size w w' := by
  have c1 : ∀ w, EnvR w → Calls Tryz.prog 64 #[.string s, .string ⟨#[47]⟩] w fun e w' => e = .returned (.tuple #[.string n0, .string d0, .bool true]) ∧ Below w.heap.size w w' := fun w R => c1' w R
  have c2 : ∀ w, EnvR w → Calls Tryz.prog 89 #[.string n0] w fun e w' => e = .returned (.bool false) ∧ Below w.heap.size w w' := fun w R => c2' w R
  have C1 := Lib.hid c1
  have C2 := Lib.hid c2
  clear c1 c2 c1' c2'
  have h0' : (0 : Int) < (s.size : Int) := by omega
  have he : (s.toList == []) = false := by rw [Lib.toList_data, beq_eq_false_iff_ne]; intro h; rw [size_len, h] at h0; exact absurd h0 (by decide)
  have hb := Below.refl w.heap.size w
  go_enter Tryz.func28, Tryz.ntmps28
  go_wp2_with (first | (go_at_call 64; ((with_reducible refine (chain hb (C1.out _ (R.below hb))).mono ?_); clear hb; rintro e w1 ⟨rfl, hb⟩)) | (go_at_call 89; ((with_reducible refine (chain hb (C2.out _ (R.below hb))).mono ?_); clear hb; rintro e w1 ⟨rfl, hb⟩)))
  go_ret2
  exact ⟨rfl, hb⟩
set_option maxRecDepth 100000 in
set_option maxHeartbeats 1000000 in
theorem parse_nfd (s n0 d0 : ByteArray) (h0 : 0 < s.size) (hs : s.size ≤ 1000000) (_hn0 : n0.size ≤ 1000000) (hp : ((s[0].toNat : Int) == 43) = false) (hm : ((s[0].toNat : Int) == 45) = false) (c1' : ∀ w, EnvR w → Calls Tryz.prog 64 #[.string s, .string ⟨#[47]⟩] w fun e w' => e = .returned (.tuple #[.string n0, .string d0, .bool true]) ∧ Below w.heap.size w w') (c2' : ∀ w, EnvR w → Calls Tryz.prog 89 #[.string n0] w fun e w' => e = .returned (.bool true) ∧ Below w.heap.size w w') (c3' : ∀ w, EnvR w → Calls Tryz.prog 89 #[.string d0] w fun e w' => e = .returned (.bool false) ∧ Below w.heap.size w w') (w : World) (R : EnvR w) :
    Calls Tryz.prog 28 #[.string s] w fun e w' => e = .returned (.tuple #[.string ⟨#[]⟩, .int .i64 15]) ∧ Below w.heap.size w w' := by
  have c1 : ∀ w, EnvR w → Calls Tryz.prog 64 #[.string s, .string ⟨#[47]⟩] w fun e w' => e = .returned (.tuple #[.string n0, .string d0, .bool true]) ∧ Below w.heap.size w w' := fun w R => c1' w R
  have c2 : ∀ w, EnvR w → Calls Tryz.prog 89 #[.string n0] w fun e w' => e = .returned (.bool true) ∧ Below w.heap.size w w' := fun w R => c2' w R
  have c3 : ∀ w, EnvR w → Calls Tryz.prog 89 #[.string d0] w fun e w' => e = .returned (.bool false) ∧ Below w.heap.size w w' := fun w R => c3' w R
  have C1 := Lib.hid c1
  have C2 := Lib.hid c2
  have C3 := Lib.hid c3
  clear c1 c2 c3 c1' c2' c3'
  have h0' : (0 : Int) < (s.size : Int) := by omega
  have he : (s.toList == []) = false := by rw [Lib.toList_data, beq_eq_false_iff_ne]; intro h; rw [size_len, h] at h0; exact absurd h0 (by decide)
  have hb := Below.refl w.heap.size w
  go_enter Tryz.func28, Tryz.ntmps28
  go_wp2_with (first | (go_at_call 64; ((with_reducible refine (chain hb (C1.out _ (R.below hb))).mono ?_); clear hb; rintro e w1 ⟨rfl, hb⟩)) | (go_at_call 89; first | ((with_reducible refine (chain hb (C2.out _ (R.below hb))).mono ?_); clear hb; rintro e w1 ⟨rfl, hb⟩) | ((with_reducible refine (chain hb (C3.out _ (R.below hb))).mono ?_); clear hb; rintro e w1 ⟨rfl, hb⟩)))
  go_ret2
  exact ⟨rfl, hb⟩
set_option maxRecDepth 100000 in
set_option maxHeartbeats 1000000 in
theorem parse_nfl (s n0 d0 : ByteArray) (h0 : 0 < s.size) (hs : s.size ≤ 1000000) (_hn0 : n0.size ≤ 1000000) (hp : ((s[0].toNat : Int) == 43) = false) (hm : ((s[0].toNat : Int) == 45) = false) (hl : 200 < (s.size : Int)) (c1' : ∀ w, EnvR w → Calls Tryz.prog 64 #[.string s, .string ⟨#[47]⟩] w fun e w' => e = .returned (.tuple #[.string n0, .string d0, .bool true]) ∧ Below w.heap.size w w') (c2' : ∀ w, EnvR w → Calls Tryz.prog 89 #[.string n0] w fun e w' => e = .returned (.bool true) ∧ Below w.heap.size w w') (c3' : ∀ w, EnvR w → Calls Tryz.prog 89 #[.string d0] w fun e w' => e = .returned (.bool true) ∧ Below w.heap.size w w') (w : World) (R : EnvR w) :
    Calls Tryz.prog 28 #[.string s] w fun e w' => e = .returned (.tuple #[.string ⟨#[]⟩, .int .i64 16]) ∧ Below w.heap.size w w' := by
  have c1 : ∀ w, EnvR w → Calls Tryz.prog 64 #[.string s, .string ⟨#[47]⟩] w fun e w' => e = .returned (.tuple #[.string n0, .string d0, .bool true]) ∧ Below w.heap.size w w' := fun w R => c1' w R
  have c2 : ∀ w, EnvR w → Calls Tryz.prog 89 #[.string n0] w fun e w' => e = .returned (.bool true) ∧ Below w.heap.size w w' := fun w R => c2' w R
  have c3 : ∀ w, EnvR w → Calls Tryz.prog 89 #[.string d0] w fun e w' => e = .returned (.bool true) ∧ Below w.heap.size w w' := fun w R => c3' w R
  have C1 := Lib.hid c1
  have C2 := Lib.hid c2
  have C3 := Lib.hid c3
  clear c1 c2 c3 c1' c2' c3'
  have h0' : (0 : Int) < (s.size : Int) := by omega
  have he : (s.toList == []) = false := by rw [Lib.toList_data, beq_eq_false_iff_ne]; intro h; rw [size_len, h] at h0; exact absurd h0 (by decide)
  have hb := Below.refl w.heap.size w
  go_enter Tryz.func28, Tryz.ntmps28
  go_wp2_with (first | (go_at_call 64; ((with_reducible refine (chain hb (C1.out _ (R.below hb))).mono ?_); clear hb; rintro e w1 ⟨rfl, hb⟩)) | (go_at_call 89; first | ((with_reducible refine (chain hb (C2.out _ (R.below hb))).mono ?_); clear hb; rintro e w1 ⟨rfl, hb⟩) | ((with_reducible refine (chain hb (C3.out _ (R.below hb))).mono ?_); clear hb; rintro e w1 ⟨rfl, hb⟩)))
  go_ret2
  exact ⟨rfl, hb⟩
set_option maxRecDepth 100000 in
set_option maxHeartbeats 1000000 in
theorem parse_nfy (s n0 d0 t b r : ByteArray) (z e1 e2 : Int) (h0 : 0 < s.size) (hs : s.size ≤ 1000000) (hn0 : n0.size ≤ 1000000) (hp : ((s[0].toNat : Int) == 43) = false) (hm : ((s[0].toNat : Int) == 45) = false) (hl : (s.size : Int) ≤ 200) (c1' : ∀ w, EnvR w → Calls Tryz.prog 64 #[.string s, .string ⟨#[47]⟩] w fun e w' => e = .returned (.tuple #[.string n0, .string d0, .bool true]) ∧ Below w.heap.size w w') (c2' : ∀ w, EnvR w → Calls Tryz.prog 89 #[.string n0] w fun e w' => e = .returned (.bool true) ∧ Below w.heap.size w w') (c3' : ∀ w, EnvR w → Calls Tryz.prog 89 #[.string d0] w fun e w' => e = .returned (.bool true) ∧ Below w.heap.size w w') (c4' : ∀ w, EnvR w → Calls Tryz.prog 90 #[.string (⟨#[]⟩ ++ n0)] w fun e w' => e = .returned (.tuple #[.string t, .int .i64 e1]) ∧ Below w.heap.size w w') (c5' : ∀ w, EnvR w → Calls Tryz.prog 90 #[.string d0] w fun e w' => e = .returned (.tuple #[.string b, .int .i64 e2]) ∧ Below w.heap.size w w') (c6' : ∀ w, EnvR w → Calls Tryz.prog 22 #[.string t, .string b] w fun e w' => e = .returned (.tuple #[.string r, .int .i64 z]) ∧ Below w.heap.size w w') (w : World) (R : EnvR w) :
    Calls Tryz.prog 28 #[.string s] w fun e w' => e = .returned (.tuple #[.string r, .int .i64 z]) ∧ Below w.heap.size w w' := by
  have c1 : ∀ w, EnvR w → Calls Tryz.prog 64 #[.string s, .string ⟨#[47]⟩] w fun e w' => e = .returned (.tuple #[.string n0, .string d0, .bool true]) ∧ Below w.heap.size w w' := fun w R => c1' w R
  have c2 : ∀ w, EnvR w → Calls Tryz.prog 89 #[.string n0] w fun e w' => e = .returned (.bool true) ∧ Below w.heap.size w w' := fun w R => c2' w R
  have c3 : ∀ w, EnvR w → Calls Tryz.prog 89 #[.string d0] w fun e w' => e = .returned (.bool true) ∧ Below w.heap.size w w' := fun w R => c3' w R
  have c4 : ∀ w, EnvR w → Calls Tryz.prog 90 #[.string (⟨#[]⟩ ++ n0)] w fun e w' => e = .returned (.tuple #[.string t, .int .i64 e1]) ∧ Below w.heap.size w w' := fun w R => c4' w R
  have c5 : ∀ w, EnvR w → Calls Tryz.prog 90 #[.string d0] w fun e w' => e = .returned (.tuple #[.string b, .int .i64 e2]) ∧ Below w.heap.size w w' := fun w R => c5' w R
  have c6 : ∀ w, EnvR w → Calls Tryz.prog 22 #[.string t, .string b] w fun e w' => e = .returned (.tuple #[.string r, .int .i64 z]) ∧ Below w.heap.size w w' := fun w R => c6' w R
  have C1 := Lib.hid c1
  have C2 := Lib.hid c2
  have C3 := Lib.hid c3
  have C4 := Lib.hid c4
  have C5 := Lib.hid c5
  have C6 := Lib.hid c6
  clear c1 c2 c3 c4 c5 c6 c1' c2' c3' c4' c5' c6'
  have h0' : (0 : Int) < (s.size : Int) := by omega
  have he : (s.toList == []) = false := by rw [Lib.toList_data, beq_eq_false_iff_ne]; intro h; rw [size_len, h] at h0; exact absurd h0 (by decide)
  have hb := Below.refl w.heap.size w
  go_enter Tryz.func28, Tryz.ntmps28
  go_wp2_with (first | (go_at_call 64; ((with_reducible refine (chain hb (C1.out _ (R.below hb))).mono ?_); clear hb; rintro e w1 ⟨rfl, hb⟩)) | (go_at_call 89; first | ((with_reducible refine (chain hb (C2.out _ (R.below hb))).mono ?_); clear hb; rintro e w1 ⟨rfl, hb⟩) | ((with_reducible refine (chain hb (C3.out _ (R.below hb))).mono ?_); clear hb; rintro e w1 ⟨rfl, hb⟩)) | (go_at_call 90; first | ((with_reducible refine (chain hb (C4.out _ (R.below hb))).mono ?_); clear hb; rintro e w1 ⟨rfl, hb⟩) | ((with_reducible refine (chain hb (C5.out _ (R.below hb))).mono ?_); clear hb; rintro e w1 ⟨rfl, hb⟩)) | (go_at_call 22; ((with_reducible refine (chain hb (C6.out _ (R.below hb))).mono ?_); clear hb; rintro e w1 ⟨rfl, hb⟩)))
  go_ret2
  exact ⟨rfl, hb⟩
set_option maxRecDepth 100000 in
set_option maxHeartbeats 1000000 in
theorem parse_ndn (s n0 d0 u v : ByteArray) (h0 : 0 < s.size) (hs : s.size ≤ 1000000) (_hn0 : n0.size ≤ 1000000) (hp : ((s[0].toNat : Int) == 43) = false) (hm : ((s[0].toNat : Int) == 45) = false) (c1' : ∀ w, EnvR w → Calls Tryz.prog 64 #[.string s, .string ⟨#[47]⟩] w fun e w' => e = .returned (.tuple #[.string u, .string v, .bool false]) ∧ Below w.heap.size w w') (c2' : ∀ w, EnvR w → Calls Tryz.prog 88 #[.string s] w fun e w' => e = .returned (.tuple #[.string n0, .string d0]) ∧ Below w.heap.size w w') (c3' : ∀ w, EnvR w → Calls Tryz.prog 89 #[.string n0] w fun e w' => e = .returned (.bool false) ∧ Below w.heap.size w w') (w : World) (R : EnvR w) :
    Calls Tryz.prog 28 #[.string s] w fun e w' => e = .returned (.tuple #[.string ⟨#[]⟩, .int .i64 15]) ∧ Below w.heap.size w w' := by
  have c1 : ∀ w, EnvR w → Calls Tryz.prog 64 #[.string s, .string ⟨#[47]⟩] w fun e w' => e = .returned (.tuple #[.string u, .string v, .bool false]) ∧ Below w.heap.size w w' := fun w R => c1' w R
  have c2 : ∀ w, EnvR w → Calls Tryz.prog 88 #[.string s] w fun e w' => e = .returned (.tuple #[.string n0, .string d0]) ∧ Below w.heap.size w w' := fun w R => c2' w R
  have c3 : ∀ w, EnvR w → Calls Tryz.prog 89 #[.string n0] w fun e w' => e = .returned (.bool false) ∧ Below w.heap.size w w' := fun w R => c3' w R
  have C1 := Lib.hid c1
  have C2 := Lib.hid c2
  have C3 := Lib.hid c3
  clear c1 c2 c3 c1' c2' c3'
  have h0' : (0 : Int) < (s.size : Int) := by omega
  have he : (s.toList == []) = false := by rw [Lib.toList_data, beq_eq_false_iff_ne]; intro h; rw [size_len, h] at h0; exact absurd h0 (by decide)
  have hb := Below.refl w.heap.size w
  go_enter Tryz.func28, Tryz.ntmps28
  go_wp2_with (first | (go_at_call 64; ((with_reducible refine (chain hb (C1.out _ (R.below hb))).mono ?_); clear hb; rintro e w1 ⟨rfl, hb⟩)) | (go_at_call 88; ((with_reducible refine (chain hb (C2.out _ (R.below hb))).mono ?_); clear hb; rintro e w1 ⟨rfl, hb⟩)) | (go_at_call 89; ((with_reducible refine (chain hb (C3.out _ (R.below hb))).mono ?_); clear hb; rintro e w1 ⟨rfl, hb⟩)))
  go_ret2
  exact ⟨rfl, hb⟩
set_option maxRecDepth 100000 in
set_option maxHeartbeats 1000000 in
theorem parse_ndd (s n0 d0 u v : ByteArray) (h0 : 0 < s.size) (hs : s.size ≤ 1000000) (_hn0 : n0.size ≤ 1000000) (hp : ((s[0].toNat : Int) == 43) = false) (hm : ((s[0].toNat : Int) == 45) = false) (c1' : ∀ w, EnvR w → Calls Tryz.prog 64 #[.string s, .string ⟨#[47]⟩] w fun e w' => e = .returned (.tuple #[.string u, .string v, .bool false]) ∧ Below w.heap.size w w') (c2' : ∀ w, EnvR w → Calls Tryz.prog 88 #[.string s] w fun e w' => e = .returned (.tuple #[.string n0, .string d0]) ∧ Below w.heap.size w w') (c3' : ∀ w, EnvR w → Calls Tryz.prog 89 #[.string n0] w fun e w' => e = .returned (.bool true) ∧ Below w.heap.size w w') (c4' : ∀ w, EnvR w → Calls Tryz.prog 89 #[.string d0] w fun e w' => e = .returned (.bool false) ∧ Below w.heap.size w w') (w : World) (R : EnvR w) :
    Calls Tryz.prog 28 #[.string s] w fun e w' => e = .returned (.tuple #[.string ⟨#[]⟩, .int .i64 15]) ∧ Below w.heap.size w w' := by
  have c1 : ∀ w, EnvR w → Calls Tryz.prog 64 #[.string s, .string ⟨#[47]⟩] w fun e w' => e = .returned (.tuple #[.string u, .string v, .bool false]) ∧ Below w.heap.size w w' := fun w R => c1' w R
  have c2 : ∀ w, EnvR w → Calls Tryz.prog 88 #[.string s] w fun e w' => e = .returned (.tuple #[.string n0, .string d0]) ∧ Below w.heap.size w w' := fun w R => c2' w R
  have c3 : ∀ w, EnvR w → Calls Tryz.prog 89 #[.string n0] w fun e w' => e = .returned (.bool true) ∧ Below w.heap.size w w' := fun w R => c3' w R
  have c4 : ∀ w, EnvR w → Calls Tryz.prog 89 #[.string d0] w fun e w' => e = .returned (.bool false) ∧ Below w.heap.size w w' := fun w R => c4' w R
  have C1 := Lib.hid c1
  have C2 := Lib.hid c2
  have C3 := Lib.hid c3
  have C4 := Lib.hid c4
  clear c1 c2 c3 c4 c1' c2' c3' c4'
  have h0' : (0 : Int) < (s.size : Int) := by omega
  have he : (s.toList == []) = false := by rw [Lib.toList_data, beq_eq_false_iff_ne]; intro h; rw [size_len, h] at h0; exact absurd h0 (by decide)
  have hb := Below.refl w.heap.size w
  go_enter Tryz.func28, Tryz.ntmps28
  go_wp2_with (first | (go_at_call 64; ((with_reducible refine (chain hb (C1.out _ (R.below hb))).mono ?_); clear hb; rintro e w1 ⟨rfl, hb⟩)) | (go_at_call 88; ((with_reducible refine (chain hb (C2.out _ (R.below hb))).mono ?_); clear hb; rintro e w1 ⟨rfl, hb⟩)) | (go_at_call 89; first | ((with_reducible refine (chain hb (C3.out _ (R.below hb))).mono ?_); clear hb; rintro e w1 ⟨rfl, hb⟩) | ((with_reducible refine (chain hb (C4.out _ (R.below hb))).mono ?_); clear hb; rintro e w1 ⟨rfl, hb⟩)))
  go_ret2
  exact ⟨rfl, hb⟩
set_option maxRecDepth 100000 in
set_option maxHeartbeats 1000000 in
theorem parse_ndl (s n0 d0 u v : ByteArray) (h0 : 0 < s.size) (hs : s.size ≤ 1000000) (_hn0 : n0.size ≤ 1000000) (hp : ((s[0].toNat : Int) == 43) = false) (hm : ((s[0].toNat : Int) == 45) = false) (hl : 200 < (s.size : Int)) (c1' : ∀ w, EnvR w → Calls Tryz.prog 64 #[.string s, .string ⟨#[47]⟩] w fun e w' => e = .returned (.tuple #[.string u, .string v, .bool false]) ∧ Below w.heap.size w w') (c2' : ∀ w, EnvR w → Calls Tryz.prog 88 #[.string s] w fun e w' => e = .returned (.tuple #[.string n0, .string d0]) ∧ Below w.heap.size w w') (c3' : ∀ w, EnvR w → Calls Tryz.prog 89 #[.string n0] w fun e w' => e = .returned (.bool true) ∧ Below w.heap.size w w') (c4' : ∀ w, EnvR w → Calls Tryz.prog 89 #[.string d0] w fun e w' => e = .returned (.bool true) ∧ Below w.heap.size w w') (w : World) (R : EnvR w) :
    Calls Tryz.prog 28 #[.string s] w fun e w' => e = .returned (.tuple #[.string ⟨#[]⟩, .int .i64 16]) ∧ Below w.heap.size w w' := by
  have c1 : ∀ w, EnvR w → Calls Tryz.prog 64 #[.string s, .string ⟨#[47]⟩] w fun e w' => e = .returned (.tuple #[.string u, .string v, .bool false]) ∧ Below w.heap.size w w' := fun w R => c1' w R
  have c2 : ∀ w, EnvR w → Calls Tryz.prog 88 #[.string s] w fun e w' => e = .returned (.tuple #[.string n0, .string d0]) ∧ Below w.heap.size w w' := fun w R => c2' w R
  have c3 : ∀ w, EnvR w → Calls Tryz.prog 89 #[.string n0] w fun e w' => e = .returned (.bool true) ∧ Below w.heap.size w w' := fun w R => c3' w R
  have c4 : ∀ w, EnvR w → Calls Tryz.prog 89 #[.string d0] w fun e w' => e = .returned (.bool true) ∧ Below w.heap.size w w' := fun w R => c4' w R
  have C1 := Lib.hid c1
  have C2 := Lib.hid c2
  have C3 := Lib.hid c3
  have C4 := Lib.hid c4
  clear c1 c2 c3 c4 c1' c2' c3' c4'
  have h0' : (0 : Int) < (s.size : Int) := by omega
  have he : (s.toList == []) = false := by rw [Lib.toList_data, beq_eq_false_iff_ne]; intro h; rw [size_len, h] at h0; exact absurd h0 (by decide)
  have hb := Below.refl w.heap.size w
  go_enter Tryz.func28, Tryz.ntmps28
  go_wp2_with (first | (go_at_call 64; ((with_reducible refine (chain hb (C1.out _ (R.below hb))).mono ?_); clear hb; rintro e w1 ⟨rfl, hb⟩)) | (go_at_call 88; ((with_reducible refine (chain hb (C2.out _ (R.below hb))).mono ?_); clear hb; rintro e w1 ⟨rfl, hb⟩)) | (go_at_call 89; first | ((with_reducible refine (chain hb (C3.out _ (R.below hb))).mono ?_); clear hb; rintro e w1 ⟨rfl, hb⟩) | ((with_reducible refine (chain hb (C4.out _ (R.below hb))).mono ?_); clear hb; rintro e w1 ⟨rfl, hb⟩)))
  go_ret2
  exact ⟨rfl, hb⟩
set_option maxRecDepth 100000 in
set_option maxHeartbeats 1000000 in
theorem parse_ndy (s n0 d0 u v t b r : ByteArray) (z e1 e2 : Int) (h0 : 0 < s.size) (hs : s.size ≤ 1000000) (hn0 : n0.size ≤ 1000000) (hp : ((s[0].toNat : Int) == 43) = false) (hm : ((s[0].toNat : Int) == 45) = false) (hl : (s.size : Int) ≤ 200) (c1' : ∀ w, EnvR w → Calls Tryz.prog 64 #[.string s, .string ⟨#[47]⟩] w fun e w' => e = .returned (.tuple #[.string u, .string v, .bool false]) ∧ Below w.heap.size w w') (c2' : ∀ w, EnvR w → Calls Tryz.prog 88 #[.string s] w fun e w' => e = .returned (.tuple #[.string n0, .string d0]) ∧ Below w.heap.size w w') (c3' : ∀ w, EnvR w → Calls Tryz.prog 89 #[.string n0] w fun e w' => e = .returned (.bool true) ∧ Below w.heap.size w w') (c4' : ∀ w, EnvR w → Calls Tryz.prog 89 #[.string d0] w fun e w' => e = .returned (.bool true) ∧ Below w.heap.size w w') (c5' : ∀ w, EnvR w → Calls Tryz.prog 90 #[.string (⟨#[]⟩ ++ n0)] w fun e w' => e = .returned (.tuple #[.string t, .int .i64 e1]) ∧ Below w.heap.size w w') (c6' : ∀ w, EnvR w → Calls Tryz.prog 90 #[.string d0] w fun e w' => e = .returned (.tuple #[.string b, .int .i64 e2]) ∧ Below w.heap.size w w') (c7' : ∀ w, EnvR w → Calls Tryz.prog 22 #[.string t, .string b] w fun e w' => e = .returned (.tuple #[.string r, .int .i64 z]) ∧ Below w.heap.size w w') (w : World) (R : EnvR w) :
    Calls Tryz.prog 28 #[.string s] w fun e w' => e = .returned (.tuple #[.string r, .int .i64 z]) ∧ Below w.heap.size w w' := by
  have c1 : ∀ w, EnvR w → Calls Tryz.prog 64 #[.string s, .string ⟨#[47]⟩] w fun e w' => e = .returned (.tuple #[.string u, .string v, .bool false]) ∧ Below w.heap.size w w' := fun w R => c1' w R
  have c2 : ∀ w, EnvR w → Calls Tryz.prog 88 #[.string s] w fun e w' => e = .returned (.tuple #[.string n0, .string d0]) ∧ Below w.heap.size w w' := fun w R => c2' w R
  have c3 : ∀ w, EnvR w → Calls Tryz.prog 89 #[.string n0] w fun e w' => e = .returned (.bool true) ∧ Below w.heap.size w w' := fun w R => c3' w R
  have c4 : ∀ w, EnvR w → Calls Tryz.prog 89 #[.string d0] w fun e w' => e = .returned (.bool true) ∧ Below w.heap.size w w' := fun w R => c4' w R
  have c5 : ∀ w, EnvR w → Calls Tryz.prog 90 #[.string (⟨#[]⟩ ++ n0)] w fun e w' => e = .returned (.tuple #[.string t, .int .i64 e1]) ∧ Below w.heap.size w w' := fun w R => c5' w R
  have c6 : ∀ w, EnvR w → Calls Tryz.prog 90 #[.string d0] w fun e w' => e = .returned (.tuple #[.string b, .int .i64 e2]) ∧ Below w.heap.size w w' := fun w R => c6' w R
  have c7 : ∀ w, EnvR w → Calls Tryz.prog 22 #[.string t, .string b] w fun e w' => e = .returned (.tuple #[.string r, .int .i64 z]) ∧ Below w.heap.size w w' := fun w R => c7' w R
  have C1 := Lib.hid c1
  have C2 := Lib.hid c2
  have C3 := Lib.hid c3
  have C4 := Lib.hid c4
  have C5 := Lib.hid c5
  have C6 := Lib.hid c6
  have C7 := Lib.hid c7
  clear c1 c2 c3 c4 c5 c6 c7 c1' c2' c3' c4' c5' c6' c7'
  have h0' : (0 : Int) < (s.size : Int) := by omega
  have he : (s.toList == []) = false := by rw [Lib.toList_data, beq_eq_false_iff_ne]; intro h; rw [size_len, h] at h0; exact absurd h0 (by decide)
  have hb := Below.refl w.heap.size w
  go_enter Tryz.func28, Tryz.ntmps28
  go_wp2_with (first | (go_at_call 64; ((with_reducible refine (chain hb (C1.out _ (R.below hb))).mono ?_); clear hb; rintro e w1 ⟨rfl, hb⟩)) | (go_at_call 88; ((with_reducible refine (chain hb (C2.out _ (R.below hb))).mono ?_); clear hb; rintro e w1 ⟨rfl, hb⟩)) | (go_at_call 89; first | ((with_reducible refine (chain hb (C3.out _ (R.below hb))).mono ?_); clear hb; rintro e w1 ⟨rfl, hb⟩) | ((with_reducible refine (chain hb (C4.out _ (R.below hb))).mono ?_); clear hb; rintro e w1 ⟨rfl, hb⟩)) | (go_at_call 90; first | ((with_reducible refine (chain hb (C5.out _ (R.below hb))).mono ?_); clear hb; rintro e w1 ⟨rfl, hb⟩) | ((with_reducible refine (chain hb (C6.out _ (R.below hb))).mono ?_); clear hb; rintro e w1 ⟨rfl, hb⟩)) | (go_at_call 22; ((with_reducible refine (chain hb (C7.out _ (R.below hb))).mono ?_); clear hb; rintro e w1 ⟨rfl, hb⟩)))
  go_ret2
  exact ⟨rfl, hb⟩
set_option maxRecDepth 100000 in
set_option maxHeartbeats 1000000 in
theorem parse_pfn (s n0 d0 : ByteArray) (h0 : 0 < s.size) (hs : s.size ≤ 1000000) (_hn0 : n0.size ≤ 1000000) (hp : ((s[0].toNat : Int) == 43) = true) (c1' : ∀ w, EnvR w → Calls Tryz.prog 64 #[.string (s.extract 1 s.size), .string ⟨#[47]⟩] w fun e w' => e = .returned (.tuple #[.string n0, .string d0, .bool true]) ∧ Below w.heap.size w w') (c2' : ∀ w, EnvR w → Calls Tryz.prog 89 #[.string n0] w fun e w' => e = .returned (.bool false) ∧ Below w.heap.size w w') (w : World) (R : EnvR w) :
    Calls Tryz.prog 28 #[.string s] w fun e w' => e = .returned (.tuple #[.string ⟨#[]⟩, .int .i64 15]) ∧ Below w.heap.size w w' := by
  have c1 : ∀ w, EnvR w → Calls Tryz.prog 64 #[.string (s.extract 1 s.size), .string ⟨#[47]⟩] w fun e w' => e = .returned (.tuple #[.string n0, .string d0, .bool true]) ∧ Below w.heap.size w w' := fun w R => c1' w R
  have c2 : ∀ w, EnvR w → Calls Tryz.prog 89 #[.string n0] w fun e w' => e = .returned (.bool false) ∧ Below w.heap.size w w' := fun w R => c2' w R
  have C1 := Lib.hid c1
  have C2 := Lib.hid c2
  clear c1 c2 c1' c2'
  have h0' : (0 : Int) < (s.size : Int) := by omega
  have he : (s.toList == []) = false := by rw [Lib.toList_data, beq_eq_false_iff_ne]; intro h; rw [size_len, h] at h0; exact absurd h0 (by decide)
  have hb := Below.refl w.heap.size w
  go_enter Tryz.func28, Tryz.ntmps28
  go_wp2
  go_quiet (fail)
  go_wp2_with (first | (go_at_call 64; first | ((with_reducible refine (chain hb (C1.out _ (R.below hb))).mono ?_); clear hb; rintro e w1 ⟨rfl, hb⟩) | ((with_reducible refine (chain (below_drewN w _) (C1.out _ (R.below (below_drewN w _)))).mono ?_); clear hb; rintro e w1 ⟨rfl, hb⟩)) | (go_at_call 89; ((with_reducible refine (chain hb (C2.out _ (R.below hb))).mono ?_); clear hb; rintro e w1 ⟨rfl, hb⟩)))
  go_ret2
  exact ⟨rfl, hb⟩
set_option maxRecDepth 100000 in
set_option maxHeartbeats 1000000 in
theorem parse_pfd (s n0 d0 : ByteArray) (h0 : 0 < s.size) (hs : s.size ≤ 1000000) (_hn0 : n0.size ≤ 1000000) (hp : ((s[0].toNat : Int) == 43) = true) (c1' : ∀ w, EnvR w → Calls Tryz.prog 64 #[.string (s.extract 1 s.size), .string ⟨#[47]⟩] w fun e w' => e = .returned (.tuple #[.string n0, .string d0, .bool true]) ∧ Below w.heap.size w w') (c2' : ∀ w, EnvR w → Calls Tryz.prog 89 #[.string n0] w fun e w' => e = .returned (.bool true) ∧ Below w.heap.size w w') (c3' : ∀ w, EnvR w → Calls Tryz.prog 89 #[.string d0] w fun e w' => e = .returned (.bool false) ∧ Below w.heap.size w w') (w : World) (R : EnvR w) :
    Calls Tryz.prog 28 #[.string s] w fun e w' => e = .returned (.tuple #[.string ⟨#[]⟩, .int .i64 15]) ∧ Below w.heap.size w w' := by
  have c1 : ∀ w, EnvR w → Calls Tryz.prog 64 #[.string (s.extract 1 s.size), .string ⟨#[47]⟩] w fun e w' => e = .returned (.tuple #[.string n0, .string d0, .bool true]) ∧ Below w.heap.size w w' := fun w R => c1' w R
  have c2 : ∀ w, EnvR w → Calls Tryz.prog 89 #[.string n0] w fun e w' => e = .returned (.bool true) ∧ Below w.heap.size w w' := fun w R => c2' w R
  have c3 : ∀ w, EnvR w → Calls Tryz.prog 89 #[.string d0] w fun e w' => e = .returned (.bool false) ∧ Below w.heap.size w w' := fun w R => c3' w R
  have C1 := Lib.hid c1
  have C2 := Lib.hid c2
  have C3 := Lib.hid c3
  clear c1 c2 c3 c1' c2' c3'
  have h0' : (0 : Int) < (s.size : Int) := by omega
  have he : (s.toList == []) = false := by rw [Lib.toList_data, beq_eq_false_iff_ne]; intro h; rw [size_len, h] at h0; exact absurd h0 (by decide)
  have hb := Below.refl w.heap.size w
  go_enter Tryz.func28, Tryz.ntmps28
  go_wp2
  go_quiet (fail)
  go_wp2_with (first | (go_at_call 64; first | ((with_reducible refine (chain hb (C1.out _ (R.below hb))).mono ?_); clear hb; rintro e w1 ⟨rfl, hb⟩) | ((with_reducible refine (chain (below_drewN w _) (C1.out _ (R.below (below_drewN w _)))).mono ?_); clear hb; rintro e w1 ⟨rfl, hb⟩)) | (go_at_call 89; first | ((with_reducible refine (chain hb (C2.out _ (R.below hb))).mono ?_); clear hb; rintro e w1 ⟨rfl, hb⟩) | ((with_reducible refine (chain hb (C3.out _ (R.below hb))).mono ?_); clear hb; rintro e w1 ⟨rfl, hb⟩)))
  go_ret2
  exact ⟨rfl, hb⟩
set_option maxRecDepth 100000 in
set_option maxHeartbeats 1000000 in
theorem parse_pfl (s n0 d0 : ByteArray) (h0 : 0 < s.size) (hs : s.size ≤ 1000000) (_hn0 : n0.size ≤ 1000000) (hp : ((s[0].toNat : Int) == 43) = true) (hl : 200 < (s.size : Int)) (c1' : ∀ w, EnvR w → Calls Tryz.prog 64 #[.string (s.extract 1 s.size), .string ⟨#[47]⟩] w fun e w' => e = .returned (.tuple #[.string n0, .string d0, .bool true]) ∧ Below w.heap.size w w') (c2' : ∀ w, EnvR w → Calls Tryz.prog 89 #[.string n0] w fun e w' => e = .returned (.bool true) ∧ Below w.heap.size w w') (c3' : ∀ w, EnvR w → Calls Tryz.prog 89 #[.string d0] w fun e w' => e = .returned (.bool true) ∧ Below w.heap.size w w') (w : World) (R : EnvR w) :
    Calls Tryz.prog 28 #[.string s] w fun e w' => e = .returned (.tuple #[.string ⟨#[]⟩, .int .i64 16]) ∧ Below w.heap.size w w' := by
  have c1 : ∀ w, EnvR w → Calls Tryz.prog 64 #[.string (s.extract 1 s.size), .string ⟨#[47]⟩] w fun e w' => e = .returned (.tuple #[.string n0, .string d0, .bool true]) ∧ Below w.heap.size w w' := fun w R => c1' w R
  have c2 : ∀ w, EnvR w → Calls Tryz.prog 89 #[.string n0] w fun e w' => e = .returned (.bool true) ∧ Below w.heap.size w w' := fun w R => c2' w R
  have c3 : ∀ w, EnvR w → Calls Tryz.prog 89 #[.string d0] w fun e w' => e = .returned (.bool true) ∧ Below w.heap.size w w' := fun w R => c3' w R
  have C1 := Lib.hid c1
  have C2 := Lib.hid c2
  have C3 := Lib.hid c3
  clear c1 c2 c3 c1' c2' c3'
  have h0' : (0 : Int) < (s.size : Int) := by omega
  have he : (s.toList == []) = false := by rw [Lib.toList_data, beq_eq_false_iff_ne]; intro h; rw [size_len, h] at h0; exact absurd h0 (by decide)
  have hb := Below.refl w.heap.size w
  go_enter Tryz.func28, Tryz.ntmps28
  go_wp2
  go_quiet (fail)
  go_wp2_with (first | (go_at_call 64; first | ((with_reducible refine (chain hb (C1.out _ (R.below hb))).mono ?_); clear hb; rintro e w1 ⟨rfl, hb⟩) | ((with_reducible refine (chain (below_drewN w _) (C1.out _ (R.below (below_drewN w _)))).mono ?_); clear hb; rintro e w1 ⟨rfl, hb⟩)) | (go_at_call 89; first | ((with_reducible refine (chain hb (C2.out _ (R.below hb))).mono ?_); clear hb; rintro e w1 ⟨rfl, hb⟩) | ((with_reducible refine (chain hb (C3.out _ (R.below hb))).mono ?_); clear hb; rintro e w1 ⟨rfl, hb⟩)))
  go_ret2
  exact ⟨rfl, hb⟩
set_option maxRecDepth 100000 in
set_option maxHeartbeats 1000000 in
theorem parse_pfy (s n0 d0 t b r : ByteArray) (z e1 e2 : Int) (h0 : 0 < s.size) (hs : s.size ≤ 1000000) (hn0 : n0.size ≤ 1000000) (hp : ((s[0].toNat : Int) == 43) = true) (hl : (s.size : Int) ≤ 200) (c1' : ∀ w, EnvR w → Calls Tryz.prog 64 #[.string (s.extract 1 s.size), .string ⟨#[47]⟩] w fun e w' => e = .returned (.tuple #[.string n0, .string d0, .bool true]) ∧ Below w.heap.size w w') (c2' : ∀ w, EnvR w → Calls Tryz.prog 89 #[.string n0] w fun e w' => e = .returned (.bool true) ∧ Below w.heap.size w w') (c3' : ∀ w, EnvR w → Calls Tryz.prog 89 #[.string d0] w fun e w' => e = .returned (.bool true) ∧ Below w.heap.size w w') (c4' : ∀ w, EnvR w → Calls Tryz.prog 90 #[.string ((s.extract 0 1) ++ n0)] w fun e w' => e = .returned (.tuple #[.string t, .int .i64 e1]) ∧ Below w.heap.size w w') (c5' : ∀ w, EnvR w → Calls Tryz.prog 90 #[.string d0] w fun e w' => e = .returned (.tuple #[.string b, .int .i64 e2]) ∧ Below w.heap.size w w') (c6' : ∀ w, EnvR w → Calls Tryz.prog 22 #[.string t, .string b] w fun e w' => e = .returned (.tuple #[.string r, .int .i64 z]) ∧ Below w.heap.size w w') (w : World) (R : EnvR w) :
    Calls Tryz.prog 28 #[.string s] w fun e w' => e = .returned (.tuple #[.string r, .int .i64 z]) ∧ Below w.heap.size w w' := by
  have c1 : ∀ w, EnvR w → Calls Tryz.prog 64 #[.string (s.extract 1 s.size), .string ⟨#[47]⟩] w fun e w' => e = .returned (.tuple #[.string n0, .string d0, .bool true]) ∧ Below w.heap.size w w' := fun w R => c1' w R
  have c2 : ∀ w, EnvR w → Calls Tryz.prog 89 #[.string n0] w fun e w' => e = .returned (.bool true) ∧ Below w.heap.size w w' := fun w R => c2' w R
  have c3 : ∀ w, EnvR w → Calls Tryz.prog 89 #[.string d0] w fun e w' => e = .returned (.bool true) ∧ Below w.heap.size w w' := fun w R => c3' w R
  have c4 : ∀ w, EnvR w → Calls Tryz.prog 90 #[.string ((s.extract 0 1) ++ n0)] w fun e w' => e = .returned (.tuple #[.string t, .int .i64 e1]) ∧ Below w.heap.size w w' := fun w R => c4' w R
  have c5 : ∀ w, EnvR w → Calls Tryz.prog 90 #[.string d0] w fun e w' => e = .returned (.tuple #[.string b, .int .i64 e2]) ∧ Below w.heap.size w w' := fun w R => c5' w R
  have c6 : ∀ w, EnvR w → Calls Tryz.prog 22 #[.string t, .string b] w fun e w' => e = .returned (.tuple #[.string r, .int .i64 z]) ∧ Below w.heap.size w w' := fun w R => c6' w R
  have C1 := Lib.hid c1
  have C2 := Lib.hid c2
  have C3 := Lib.hid c3
  have C4 := Lib.hid c4
  have C5 := Lib.hid c5
  have C6 := Lib.hid c6
  clear c1 c2 c3 c4 c5 c6 c1' c2' c3' c4' c5' c6'
  have h0' : (0 : Int) < (s.size : Int) := by omega
  have he : (s.toList == []) = false := by rw [Lib.toList_data, beq_eq_false_iff_ne]; intro h; rw [size_len, h] at h0; exact absurd h0 (by decide)
  have hb := Below.refl w.heap.size w
  go_enter Tryz.func28, Tryz.ntmps28
  go_wp2
  go_quiet (fail)
  go_wp2_with (first | (go_at_call 64; first | ((with_reducible refine (chain hb (C1.out _ (R.below hb))).mono ?_); clear hb; rintro e w1 ⟨rfl, hb⟩) | ((with_reducible refine (chain (below_drewN w _) (C1.out _ (R.below (below_drewN w _)))).mono ?_); clear hb; rintro e w1 ⟨rfl, hb⟩)) | (go_at_call 89; first | ((with_reducible refine (chain hb (C2.out _ (R.below hb))).mono ?_); clear hb; rintro e w1 ⟨rfl, hb⟩) | ((with_reducible refine (chain hb (C3.out _ (R.below hb))).mono ?_); clear hb; rintro e w1 ⟨rfl, hb⟩)) | (go_at_call 90; first | ((with_reducible refine (chain hb (C4.out _ (R.below hb))).mono ?_); clear hb; rintro e w1 ⟨rfl, hb⟩) | ((with_reducible refine (chain hb (C5.out _ (R.below hb))).mono ?_); clear hb; rintro e w1 ⟨rfl, hb⟩)) | (go_at_call 22; ((with_reducible refine (chain hb (C6.out _ (R.below hb))).mono ?_); clear hb; rintro e w1 ⟨rfl, hb⟩)))
  go_ret2
  exact ⟨rfl, hb⟩
set_option maxRecDepth 100000 in
set_option maxHeartbeats 1000000 in
theorem parse_pdn (s n0 d0 u v : ByteArray) (h0 : 0 < s.size) (hs : s.size ≤ 1000000) (_hn0 : n0.size ≤ 1000000) (hp : ((s[0].toNat : Int) == 43) = true) (c1' : ∀ w, EnvR w → Calls Tryz.prog 64 #[.string (s.extract 1 s.size), .string ⟨#[47]⟩] w fun e w' => e = .returned (.tuple #[.string u, .string v, .bool false]) ∧ Below w.heap.size w w') (c2' : ∀ w, EnvR w → Calls Tryz.prog 88 #[.string (s.extract 1 s.size)] w fun e w' => e = .returned (.tuple #[.string n0, .string d0]) ∧ Below w.heap.size w w') (c3' : ∀ w, EnvR w → Calls Tryz.prog 89 #[.string n0] w fun e w' => e = .returned (.bool false) ∧ Below w.heap.size w w') (w : World) (R : EnvR w) :
    Calls Tryz.prog 28 #[.string s] w fun e w' => e = .returned (.tuple #[.string ⟨#[]⟩, .int .i64 15]) ∧ Below w.heap.size w w' := by
  have c1 : ∀ w, EnvR w → Calls Tryz.prog 64 #[.string (s.extract 1 s.size), .string ⟨#[47]⟩] w fun e w' => e = .returned (.tuple #[.string u, .string v, .bool false]) ∧ Below w.heap.size w w' := fun w R => c1' w R
  have c2 : ∀ w, EnvR w → Calls Tryz.prog 88 #[.string (s.extract 1 s.size)] w fun e w' => e = .returned (.tuple #[.string n0, .string d0]) ∧ Below w.heap.size w w' := fun w R => c2' w R
  have c3 : ∀ w, EnvR w → Calls Tryz.prog 89 #[.string n0] w fun e w' => e = .returned (.bool false) ∧ Below w.heap.size w w' := fun w R => c3' w R
  have C1 := Lib.hid c1
  have C2 := Lib.hid c2
  have C3 := Lib.hid c3
  clear c1 c2 c3 c1' c2' c3'
  have h0' : (0 : Int) < (s.size : Int) := by omega
  have he : (s.toList == []) = false := by rw [Lib.toList_data, beq_eq_false_iff_ne]; intro h; rw [size_len, h] at h0; exact absurd h0 (by decide)
  have hb := Below.refl w.heap.size w
  go_enter Tryz.func28, Tryz.ntmps28
  go_wp2
  go_quiet (fail)
  go_wp2_with (first | (go_at_call 64; first | ((with_reducible refine (chain hb (C1.out _ (R.below hb))).mono ?_); clear hb; rintro e w1 ⟨rfl, hb⟩) | ((with_reducible refine (chain (below_drewN w _) (C1.out _ (R.below (below_drewN w _)))).mono ?_); clear hb; rintro e w1 ⟨rfl, hb⟩)) | (go_at_call 88; ((with_reducible refine (chain hb (C2.out _ (R.below hb))).mono ?_); clear hb; rintro e w1 ⟨rfl, hb⟩)) | (go_at_call 89; ((with_reducible refine (chain hb (C3.out _ (R.below hb))).mono ?_); clear hb; rintro e w1 ⟨rfl, hb⟩)))
  go_ret2
  exact ⟨rfl, hb⟩
set_option maxRecDepth 100000 in
set_option maxHeartbeats 1000000 in
theorem parse_pdd (s n0 d0 u v : ByteArray) (h0 : 0 < s.size) (hs : s.size ≤ 1000000) (_hn0 : n0.size ≤ 1000000) (hp : ((s[0].toNat : Int) == 43) = true) (c1' : ∀ w, EnvR w → Calls Tryz.prog 64 #[.string (s.extract 1 s.size), .string ⟨#[47]⟩] w fun e w' => e = .returned (.tuple #[.string u, .string v, .bool false]) ∧ Below w.heap.size w w') (c2' : ∀ w, EnvR w → Calls Tryz.prog 88 #[.string (s.extract 1 s.size)] w fun e w' => e = .returned (.tuple #[.string n0, .string d0]) ∧ Below w.heap.size w w') (c3' : ∀ w, EnvR w → Calls Tryz.prog 89 #[.string n0] w fun e w' => e = .returned (.bool true) ∧ Below w.heap.size w w') (c4' : ∀ w, EnvR w → Calls Tryz.prog 89 #[.string d0] w fun e w' => e = .returned (.bool false) ∧ Below w.heap.size w w') (w : World) (R : EnvR w) :
    Calls Tryz.prog 28 #[.string s] w fun e w' => e = .returned (.tuple #[.string ⟨#[]⟩, .int .i64 15]) ∧ Below w.heap.size w w' := by
  have c1 : ∀ w, EnvR w → Calls Tryz.prog 64 #[.string (s.extract 1 s.size), .string ⟨#[47]⟩] w fun e w' => e = .returned (.tuple #[.string u, .string v, .bool false]) ∧ Below w.heap.size w w' := fun w R => c1' w R
  have c2 : ∀ w, EnvR w → Calls Tryz.prog 88 #[.string (s.extract 1 s.size)] w fun e w' => e = .returned (.tuple #[.string n0, .string d0]) ∧ Below w.heap.size w w' := fun w R => c2' w R
  have c3 : ∀ w, EnvR w → Calls Tryz.prog 89 #[.string n0] w fun e w' => e = .returned (.bool true) ∧ Below w.heap.size w w' := fun w R => c3' w R
  have c4 : ∀ w, EnvR w → Calls Tryz.prog 89 #[.string d0] w fun e w' => e = .returned (.bool false) ∧ Below w.heap.size w w' := fun w R => c4' w R
  have C1 := Lib.hid c1
  have C2 := Lib.hid c2
  have C3 := Lib.hid c3
  have C4 := Lib.hid c4
  clear c1 c2 c3 c4 c1' c2' c3' c4'
  have h0' : (0 : Int) < (s.size : Int) := by omega
  have he : (s.toList == []) = false := by rw [Lib.toList_data, beq_eq_false_iff_ne]; intro h; rw [size_len, h] at h0; exact absurd h0 (by decide)
  have hb := Below.refl w.heap.size w
  go_enter Tryz.func28, Tryz.ntmps28
  go_wp2
  go_quiet (fail)
  go_wp2_with (first | (go_at_call 64; first | ((with_reducible refine (chain hb (C1.out _ (R.below hb))).mono ?_); clear hb; rintro e w1 ⟨rfl, hb⟩) | ((with_reducible refine (chain (below_drewN w _) (C1.out _ (R.below (below_drewN w _)))).mono ?_); clear hb; rintro e w1 ⟨rfl, hb⟩)) | (go_at_call 88; ((with_reducible refine (chain hb (C2.out _ (R.below hb))).mono ?_); clear hb; rintro e w1 ⟨rfl, hb⟩)) | (go_at_call 89; first | ((with_reducible refine (chain hb (C3.out _ (R.below hb))).mono ?_); clear hb; rintro e w1 ⟨rfl, hb⟩) | ((with_reducible refine (chain hb (C4.out _ (R.below hb))).mono ?_); clear hb; rintro e w1 ⟨rfl, hb⟩)))
  go_ret2
  exact ⟨rfl, hb⟩
set_option maxRecDepth 100000 in
set_option maxHeartbeats 1000000 in
theorem parse_pdl (s n0 d0 u v : ByteArray) (h0 : 0 < s.size) (hs : s.size ≤ 1000000) (_hn0 : n0.size ≤ 1000000) (hp : ((s[0].toNat : Int) == 43) = true) (hl : 200 < (s.size : Int)) (c1' : ∀ w, EnvR w → Calls Tryz.prog 64 #[.string (s.extract 1 s.size), .string ⟨#[47]⟩] w fun e w' => e = .returned (.tuple #[.string u, .string v, .bool false]) ∧ Below w.heap.size w w') (c2' : ∀ w, EnvR w → Calls Tryz.prog 88 #[.string (s.extract 1 s.size)] w fun e w' => e = .returned (.tuple #[.string n0, .string d0]) ∧ Below w.heap.size w w') (c3' : ∀ w, EnvR w → Calls Tryz.prog 89 #[.string n0] w fun e w' => e = .returned (.bool true) ∧ Below w.heap.size w w') (c4' : ∀ w, EnvR w → Calls Tryz.prog 89 #[.string d0] w fun e w' => e = .returned (.bool true) ∧ Below w.heap.size w w') (w : World) (R : EnvR w) :
    Calls Tryz.prog 28 #[.string s] w fun e w' => e = .returned (.tuple #[.string ⟨#[]⟩, .int .i64 16]) ∧ Below w.heap.size w w' := by
  have c1 : ∀ w, EnvR w → Calls Tryz.prog 64 #[.string (s.extract 1 s.size), .string ⟨#[47]⟩] w fun e w' => e = .returned (.tuple #[.string u, .string v, .bool false]) ∧ Below w.heap.size w w' := fun w R => c1' w R
  have c2 : ∀ w, EnvR w → Calls Tryz.prog 88 #[.string (s.extract 1 s.size)] w fun e w' => e = .returned (.tuple #[.string n0, .string d0]) ∧ Below w.heap.size w w' := fun w R => c2' w R
  have c3 : ∀ w, EnvR w → Calls Tryz.prog 89 #[.string n0] w fun e w' => e = .returned (.bool true) ∧ Below w.heap.size w w' := fun w R => c3' w R
  have c4 : ∀ w, EnvR w → Calls Tryz.prog 89 #[.string d0] w fun e w' => e = .returned (.bool true) ∧ Below w.heap.size w w' := fun w R => c4' w R
  have C1 := Lib.hid c1
  have C2 := Lib.hid c2
  have C3 := Lib.hid c3
  have C4 := Lib.hid c4
  clear c1 c2 c3 c4 c1' c2' c3' c4'
  have h0' : (0 : Int) < (s.size : Int) := by omega
  have he : (s.toList == []) = false := by rw [Lib.toList_data, beq_eq_false_iff_ne]; intro h; rw [size_len, h] at h0; exact absurd h0 (by decide)
  have hb := Below.refl w.heap.size w
  go_enter Tryz.func28, Tryz.ntmps28
  go_wp2
  go_quiet (fail)
  go_wp2_with (first | (go_at_call 64; first | ((with_reducible refine (chain hb (C1.out _ (R.below hb))).mono ?_); clear hb; rintro e w1 ⟨rfl, hb⟩) | ((with_reducible refine (chain (below_drewN w _) (C1.out _ (R.below (below_drewN w _)))).mono ?_); clear hb; rintro e w1 ⟨rfl, hb⟩)) | (go_at_call 88; ((with_reducible refine (chain hb (C2.out _ (R.below hb))).mono ?_); clear hb; rintro e w1 ⟨rfl, hb⟩)) | (go_at_call 89; first | ((with_reducible refine (chain hb (C3.out _ (R.below hb))).mono ?_); clear hb; rintro e w1 ⟨rfl, hb⟩) | ((with_reducible refine (chain hb (C4.out _ (R.below hb))).mono ?_); clear hb; rintro e w1 ⟨rfl, hb⟩)))
  go_ret2
  exact ⟨rfl, hb⟩
set_option maxRecDepth 100000 in
set_option maxHeartbeats 1000000 in
theorem parse_pdy (s n0 d0 u v t b r : ByteArray) (z e1 e2 : Int) (h0 : 0 < s.size) (hs : s.size ≤ 1000000) (hn0 : n0.size ≤ 1000000) (hp : ((s[0].toNat : Int) == 43) = true) (hl : (s.size : Int) ≤ 200) (c1' : ∀ w, EnvR w → Calls Tryz.prog 64 #[.string (s.extract 1 s.size), .string ⟨#[47]⟩] w fun e w' => e = .returned (.tuple #[.string u, .string v, .bool false]) ∧ Below w.heap.size w w') (c2' : ∀ w, EnvR w → Calls Tryz.prog 88 #[.string (s.extract 1 s.size)] w fun e w' => e = .returned (.tuple #[.string n0, .string d0]) ∧ Below w.heap.size w w') (c3' : ∀ w, EnvR w → Calls Tryz.prog 89 #[.string n0] w fun e w' => e = .returned (.bool true) ∧ Below w.heap.size w w') (c4' : ∀ w, EnvR w → Calls Tryz.prog 89 #[.string d0] w fun e w' => e = .returned (.bool true) ∧ Below w.heap.size w w') (c5' : ∀ w, EnvR w → Calls Tryz.prog 90 #[.string ((s.extract 0 1) ++ n0)] w fun e w' => e = .returned (.tuple #[.string t, .int .i64 e1]) ∧ Below w.heap.size w w') (c6' : ∀ w, EnvR w → Calls Tryz.prog 90 #[.string d0] w fun e w' => e = .returned (.tuple #[.string b, .int .i64 e2]) ∧ Below w.heap.size w w') (c7' : ∀ w, EnvR w → Calls Tryz.prog 22 #[.string t, .string b] w fun e w' => e = .returned (.tuple #[.string r, .int .i64 z]) ∧ Below w.heap.size w w') (w : World) (R : EnvR w) :
    Calls Tryz.prog 28 #[.string s] w fun e w' => e = .returned (.tuple #[.string r, .int .i64 z]) ∧ Below w.heap.size w w' := by
  have c1 : ∀ w, EnvR w → Calls Tryz.prog 64 #[.string (s.extract 1 s.size), .string ⟨#[47]⟩] w fun e w' => e = .returned (.tuple #[.string u, .string v, .bool false]) ∧ Below w.heap.size w w' := fun w R => c1' w R
  have c2 : ∀ w, EnvR w → Calls Tryz.prog 88 #[.string (s.extract 1 s.size)] w fun e w' => e = .returned (.tuple #[.string n0, .string d0]) ∧ Below w.heap.size w w' := fun w R => c2' w R
  have c3 : ∀ w, EnvR w → Calls Tryz.prog 89 #[.string n0] w fun e w' => e = .returned (.bool true) ∧ Below w.heap.size w w' := fun w R => c3' w R
  have c4 : ∀ w, EnvR w → Calls Tryz.prog 89 #[.string d0] w fun e w' => e = .returned (.bool true) ∧ Below w.heap.size w w' := fun w R => c4' w R
  have c5 : ∀ w, EnvR w → Calls Tryz.prog 90 #[.string ((s.extract 0 1) ++ n0)] w fun e w' => e = .returned (.tuple #[.string t, .int .i64 e1]) ∧ Below w.heap.size w w' := fun w R => c5' w R
  have c6 : ∀ w, EnvR w → Calls Tryz.prog 90 #[.string d0] w fun e w' => e = .returned (.tuple #[.string b, .int .i64 e2]) ∧ Below w.heap.size w w' := fun w R => c6' w R
  have c7 : ∀ w, EnvR w → Calls Tryz.prog 22 #[.string t, .string b] w fun e w' => e = .returned (.tuple #[.string r, .int .i64 z]) ∧ Below w.heap.size w w' := fun w R => c7' w R
  have C1 := Lib.hid c1
  have C2 := Lib.hid c2
  have C3 := Lib.hid c3
  have C4 := Lib.hid c4
  have C5 := Lib.hid c5
  have C6 := Lib.hid c6
  have C7 := Lib.hid c7
  clear c1 c2 c3 c4 c5 c6 c7 c1' c2' c3' c4' c5' c6' c7'
  have h0' : (0 : Int) < (s.size : Int) := by omega
  have he : (s.toList == []) = false := by rw [Lib.toList_data, beq_eq_false_iff_ne]; intro h; rw [size_len, h] at h0; exact absurd h0 (by decide)
  have hb := Below.refl w.heap.size w
  go_enter Tryz.func28, Tryz.ntmps28
  go_wp2
  go_quiet (fail)
  go_wp2_with (first | (go_at_call 64; first | ((with_reducible refine (chain hb (C1.out _ (R.below hb))).mono ?_); clear hb; rintro e w1 ⟨rfl, hb⟩) | ((with_reducible refine (chain (below_drewN w _) (C1.out _ (R.below (below_drewN w _)))).mono ?_); clear hb; rintro e w1 ⟨rfl, hb⟩)) | (go_at_call 88; ((with_reducible refine (chain hb (C2.out _ (R.below hb))).mono ?_); clear hb; rintro e w1 ⟨rfl, hb⟩)) | (go_at_call 89; first | ((with_reducible refine (chain hb (C3.out _ (R.below hb))).mono ?_); clear hb; rintro e w1 ⟨rfl, hb⟩) | ((with_reducible refine (chain hb (C4.out _ (R.below hb))).mono ?_); clear hb; rintro e w1 ⟨rfl, hb⟩)) | (go_at_call 90; first | ((with_reducible refine (chain hb (C5.out _ (R.below hb))).mono ?_); clear hb; rintro e w1 ⟨rfl, hb⟩) | ((with_reducible refine (chain hb (C6.out _ (R.below hb))).mono ?_); clear hb; rintro e w1 ⟨rfl, hb⟩)) | (go_at_call 22; ((with_reducible refine (chain hb (C7.out _ (R.below hb))).mono ?_); clear hb; rintro e w1 ⟨rfl, hb⟩)))
  go_ret2
  exact ⟨rfl, hb⟩
set_option maxRecDepth 100000 in
set_option maxHeartbeats 1000000 in
theorem parse_mfn (s n0 d0 : ByteArray) (h0 : 0 < s.size) (hs : s.size ≤ 1000000) (_hn0 : n0.size ≤ 1000000) (hp : ((s[0].toNat : Int) == 43) = false) (hm : ((s[0].toNat : Int) == 45) = true) (c1' : ∀ w, EnvR w → Calls Tryz.prog 64 #[.string (s.extract 1 s.size), .string ⟨#[47]⟩] w fun e w' => e = .returned (.tuple #[.string n0, .string d0, .bool true]) ∧ Below w.heap.size w w') (c2' : ∀ w, EnvR w → Calls Tryz.prog 89 #[.string n0] w fun e w' => e = .returned (.bool false) ∧ Below w.heap.size w w') (w : World) (R : EnvR w) :
    Calls Tryz.prog 28 #[.string s] w fun e w' => e = .returned (.tuple #[.string ⟨#[]⟩, .int .i64 15]) ∧ Below w.heap.size w w' := by
  have c1 : ∀ w, EnvR w → Calls Tryz.prog 64 #[.string (s.extract 1 s.size), .string ⟨#[47]⟩] w fun e w' => e = .returned (.tuple #[.string n0, .string d0, .bool true]) ∧ Below w.heap.size w w' := fun w R => c1' w R
  have c2 : ∀ w, EnvR w → Calls Tryz.prog 89 #[.string n0] w fun e w' => e = .returned (.bool false) ∧ Below w.heap.size w w' := fun w R => c2' w R
  have C1 := Lib.hid c1
  have C2 := Lib.hid c2
  clear c1 c2 c1' c2'
  have h0' : (0 : Int) < (s.size : Int) := by omega
  have he : (s.toList == []) = false := by rw [Lib.toList_data, beq_eq_false_iff_ne]; intro h; rw [size_len, h] at h0; exact absurd h0 (by decide)
  have hb := Below.refl w.heap.size w
  go_enter Tryz.func28, Tryz.ntmps28
  go_wp2
  go_quiet (fail)
  go_wp2_with (first | (go_at_call 64; first | ((with_reducible refine (chain hb (C1.out _ (R.below hb))).mono ?_); clear hb; rintro e w1 ⟨rfl, hb⟩) | ((with_reducible refine (chain (below_drewN w _) (C1.out _ (R.below (below_drewN w _)))).mono ?_); clear hb; rintro e w1 ⟨rfl, hb⟩)) | (go_at_call 89; ((with_reducible refine (chain hb (C2.out _ (R.below hb))).mono ?_); clear hb; rintro e w1 ⟨rfl, hb⟩)))
  go_ret2
  exact ⟨rfl, hb⟩
set_option maxRecDepth 100000 in
set_option maxHeartbeats 1000000 in
theorem parse_mfd (s n0 d0 : ByteArray) (h0 : 0 < s.size) (hs : s.size ≤ 1000000) (_hn0 : n0.size ≤ 1000000) (hp : ((s[0].toNat : Int) == 43) = false) (hm : ((s[0].toNat : Int) == 45) = true) (c1' : ∀ w, EnvR w → Calls Tryz.prog 64 #[.string (s.extract 1 s.size), .string ⟨#[47]⟩] w fun e w' => e = .returned (.tuple #[.string n0, .string d0, .bool true]) ∧ Below w.heap.size w w') (c2' : ∀ w, EnvR w → Calls Tryz.prog 89 #[.string n0] w fun e w' => e = .returned (.bool true) ∧ Below w.heap.size w w') (c3' : ∀ w, EnvR w → Calls Tryz.prog 89 #[.string d0] w fun e w' => e = .returned (.bool false) ∧ Below w.heap.size w w') (w : World) (R : EnvR w) :
    Calls Tryz.prog 28 #[.string s] w fun e w' => e = .returned (.tuple #[.string ⟨#[]⟩, .int .i64 15]) ∧ Below w.heap.size w w' := by
  have c1 : ∀ w, EnvR w → Calls Tryz.prog 64 #[.string (s.extract 1 s.size), .string ⟨#[47]⟩] w fun e w' => e = .returned (.tuple #[.string n0, .string d0, .bool true]) ∧ Below w.heap.size w w' := fun w R => c1' w R
  have c2 : ∀ w, EnvR w → Calls Tryz.prog 89 #[.string n0] w fun e w' => e = .returned (.bool true) ∧ Below w.heap.size w w' := fun w R => c2' w R
  have c3 : ∀ w, EnvR w → Calls Tryz.prog 89 #[.string d0] w fun e w' => e = .returned (.bool false) ∧ Below w.heap.size w w' := fun w R => c3' w R
  have C1 := Lib.hid c1
  have C2 := Lib.hid c2
  have C3 := Lib.hid c3
  clear c1 c2 c3 c1' c2' c3'
  have h0' : (0 : Int) < (s.size : Int) := by omega
  have he : (s.toList == []) = false := by rw [Lib.toList_data, beq_eq_false_iff_ne]; intro h; rw [size_len, h] at h0; exact absurd h0 (by decide)
  have hb := Below.refl w.heap.size w
  go_enter Tryz.func28, Tryz.ntmps28
  go_wp2
  go_quiet (fail)
  go_wp2_with (first | (go_at_call 64; first | ((with_reducible refine (chain hb (C1.out _ (R.below hb))).mono ?_); clear hb; rintro e w1 ⟨rfl, hb⟩) | ((with_reducible refine (chain (below_drewN w _) (C1.out _ (R.below (below_drewN w _)))).mono ?_); clear hb; rintro e w1 ⟨rfl, hb⟩)) | (go_at_call 89; first | ((with_reducible refine (chain hb (C2.out _ (R.below hb))).mono ?_); clear hb; rintro e w1 ⟨rfl, hb⟩) | ((with_reducible refine (chain hb (C3.out _ (R.below hb))).mono ?_); clear hb; rintro e w1 ⟨rfl, hb⟩)))
  go_ret2
  exact ⟨rfl, hb⟩
set_option maxRecDepth 100000 in
set_option maxHeartbeats 1000000 in
theorem parse_mfl (s n0 d0 : ByteArray) (h0 : 0 < s.size) (hs : s.size ≤ 1000000) (_hn0 : n0.size ≤ 1000000) (hp : ((s[0].toNat : Int) == 43) = false) (hm : ((s[0].toNat : Int) == 45) = true) (hl : 200 < (s.size : Int)) (c1' : ∀ w, EnvR w → Calls Tryz.prog 64 #[.string (s.extract 1 s.size), .string ⟨#[47]⟩] w fun e w' => e = .returned (.tuple #[.string n0, .string d0, .bool true]) ∧ Below w.heap.size w w') (c2' : ∀ w, EnvR w → Calls Tryz.prog 89 #[.string n0] w fun e w' => e = .returned (.bool true) ∧ Below w.heap.size w w') (c3' : ∀ w, EnvR w → Calls Tryz.prog 89 #[.string d0] w fun e w' => e = .returned (.bool true) ∧ Below w.heap.size w w') (w : World) (R : EnvR w) :
    Calls Tryz.prog 28 #[.string s] w fun e w' => e = .returned (.tuple #[.string ⟨#[]⟩, .int .i64 16]) ∧ Below w.heap.size w w' := by
  have c1 : ∀ w, EnvR w → Calls Tryz.prog 64 #[.string (s.extract 1 s.size), .string ⟨#[47]⟩] w fun e w' => e = .returned (.tuple #[.string n0, .string d0, .bool true]) ∧ Below w.heap.size w w' := fun w R => c1' w R
  have c2 : ∀ w, EnvR w → Calls Tryz.prog 89 #[.string n0] w fun e w' => e = .returned (.bool true) ∧ Below w.heap.size w w' := fun w R => c2' w R
  have c3 : ∀ w, EnvR w → Calls Tryz.prog 89 #[.string d0] w fun e w' => e = .returned (.bool true) ∧ Below w.heap.size w w' := fun w R => c3' w R
  have C1 := Lib.hid c1
  have C2 := Lib.hid c2
  have C3 := Lib.hid c3
  clear c1 c2 c3 c1' c2' c3'
  have h0' : (0 : Int) < (s.size : Int) := by omega
  have he : (s.toList == []) = false := by rw [Lib.toList_data, beq_eq_false_iff_ne]; intro h; rw [size_len, h] at h0; exact absurd h0 (by decide)
  have hb := Below.refl w.heap.size w
  go_enter Tryz.func28, Tryz.ntmps28
  go_wp2
  go_quiet (fail)
  go_wp2_with (first | (go_at_call 64; first | ((with_reducible refine (chain hb (C1.out _ (R.below hb))).mono ?_); clear hb; rintro e w1 ⟨rfl, hb⟩) | ((with_reducible refine (chain (below_drewN w _) (C1.out _ (R.below (below_drewN w _)))).mono ?_); clear hb; rintro e w1 ⟨rfl, hb⟩)) | (go_at_call 89; first | ((with_reducible refine (chain hb (C2.out _ (R.below hb))).mono ?_); clear hb; rintro e w1 ⟨rfl, hb⟩) | ((with_reducible refine (chain hb (C3.out _ (R.below hb))).mono ?_); clear hb; rintro e w1 ⟨rfl, hb⟩)))
  go_ret2
  exact ⟨rfl, hb⟩
set_option maxRecDepth 100000 in
set_option maxHeartbeats 1000000 in
theorem parse_mfy (s n0 d0 t b r : ByteArray) (z e1 e2 : Int) (h0 : 0 < s.size) (hs : s.size ≤ 1000000) (hn0 : n0.size ≤ 1000000) (hp : ((s[0].toNat : Int) == 43) = false) (hm : ((s[0].toNat : Int) == 45) = true) (hl : (s.size : Int) ≤ 200) (c1' : ∀ w, EnvR w → Calls Tryz.prog 64 #[.string (s.extract 1 s.size), .string ⟨#[47]⟩] w fun e w' => e = .returned (.tuple #[.string n0, .string d0, .bool true]) ∧ Below w.heap.size w w') (c2' : ∀ w, EnvR w → Calls Tryz.prog 89 #[.string n0] w fun e w' => e = .returned (.bool true) ∧ Below w.heap.size w w') (c3' : ∀ w, EnvR w → Calls Tryz.prog 89 #[.string d0] w fun e w' => e = .returned (.bool true) ∧ Below w.heap.size w w') (c4' : ∀ w, EnvR w → Calls Tryz.prog 90 #[.string ((s.extract 0 1) ++ n0)] w fun e w' => e = .returned (.tuple #[.string t, .int .i64 e1]) ∧ Below w.heap.size w w') (c5' : ∀ w, EnvR w → Calls Tryz.prog 90 #[.string d0] w fun e w' => e = .returned (.tuple #[.string b, .int .i64 e2]) ∧ Below w.heap.size w w') (c6' : ∀ w, EnvR w → Calls Tryz.prog 22 #[.string t, .string b] w fun e w' => e = .returned (.tuple #[.string r, .int .i64 z]) ∧ Below w.heap.size w w') (w : World) (R : EnvR w) :
    Calls Tryz.prog 28 #[.string s] w fun e w' => e = .returned (.tuple #[.string r, .int .i64 z]) ∧ Below w.heap.size w w' := by
  have c1 : ∀ w, EnvR w → Calls Tryz.prog 64 #[.string (s.extract 1 s.size), .string ⟨#[47]⟩] w fun e w' => e = .returned (.tuple #[.string n0, .string d0, .bool true]) ∧ Below w.heap.size w w' := fun w R => c1' w R
  have c2 : ∀ w, EnvR w → Calls Tryz.prog 89 #[.string n0] w fun e w' => e = .returned (.bool true) ∧ Below w.heap.size w w' := fun w R => c2' w R
  have c3 : ∀ w, EnvR w → Calls Tryz.prog 89 #[.string d0] w fun e w' => e = .returned (.bool true) ∧ Below w.heap.size w w' := fun w R => c3' w R
  have c4 : ∀ w, EnvR w → Calls Tryz.prog 90 #[.string ((s.extract 0 1) ++ n0)] w fun e w' => e = .returned (.tuple #[.string t, .int .i64 e1]) ∧ Below w.heap.size w w' := fun w R => c4' w R
  have c5 : ∀ w, EnvR w → Calls Tryz.prog 90 #[.string d0] w fun e w' => e = .returned (.tuple #[.string b, .int .i64 e2]) ∧ Below w.heap.size w w' := fun w R => c5' w R
  have c6 : ∀ w, EnvR w → Calls Tryz.prog 22 #[.string t, .string b] w fun e w' => e = .returned (.tuple #[.string r, .int .i64 z]) ∧ Below w.heap.size w w' := fun w R => c6' w R
  have C1 := Lib.hid c1
  have C2 := Lib.hid c2
  have C3 := Lib.hid c3
  have C4 := Lib.hid c4
  have C5 := Lib.hid c5
  have C6 := Lib.hid c6
  clear c1 c2 c3 c4 c5 c6 c1' c2' c3' c4' c5' c6'
  have h0' : (0 : Int) < (s.size : Int) := by omega
  have he : (s.toList == []) = false := by rw [Lib.toList_data, beq_eq_false_iff_ne]; intro h; rw [size_len, h] at h0; exact absurd h0 (by decide)
  have hb := Below.refl w.heap.size w
  go_enter Tryz.func28, Tryz.ntmps28
  go_wp2
  go_quiet (fail)
  go_wp2_with (first | (go_at_call 64; first | ((with_reducible refine (chain hb (C1.out _ (R.below hb))).mono ?_); clear hb; rintro e w1 ⟨rfl, hb⟩) | ((with_reducible refine (chain (below_drewN w _) (C1.out _ (R.below (below_drewN w _)))).mono ?_); clear hb; rintro e w1 ⟨rfl, hb⟩)) | (go_at_call 89; first | ((with_reducible refine (chain hb (C2.out _ (R.below hb))).mono ?_); clear hb; rintro e w1 ⟨rfl, hb⟩) | ((with_reducible refine (chain hb (C3.out _ (R.below hb))).mono ?_); clear hb; rintro e w1 ⟨rfl, hb⟩)) | (go_at_call 90; first | ((with_reducible refine (chain hb (C4.out _ (R.below hb))).mono ?_); clear hb; rintro e w1 ⟨rfl, hb⟩) | ((with_reducible refine (chain hb (C5.out _ (R.below hb))).mono ?_); clear hb; rintro e w1 ⟨rfl, hb⟩)) | (go_at_call 22; ((with_reducible refine (chain hb (C6.out _ (R.below hb))).mono ?_); clear hb; rintro e w1 ⟨rfl, hb⟩)))
  go_ret2
  exact ⟨rfl, hb⟩
set_option maxRecDepth 100000 in
set_option maxHeartbeats 1000000 in
theorem parse_mdn (s n0 d0 u v : ByteArray) (h0 : 0 < s.size) (hs : s.size ≤ 1000000) (_hn0 : n0.size ≤ 1000000) (hp : ((s[0].toNat : Int) == 43) = false) (hm : ((s[0].toNat : Int) == 45) = true) (c1' : ∀ w, EnvR w → Calls Tryz.prog 64 #[.string (s.extract 1 s.size), .string ⟨#[47]⟩] w fun e w' => e = .returned (.tuple #[.string u, .string v, .bool false]) ∧ Below w.heap.size w w') (c2' : ∀ w, EnvR w → Calls Tryz.prog 88 #[.string (s.extract 1 s.size)] w fun e w' => e = .returned (.tuple #[.string n0, .string d0]) ∧ Below w.heap.size w w') (c3' : ∀ w, EnvR w → Calls Tryz.prog 89 #[.string n0] w fun e w' => e = .returned (.bool false) ∧ Below w.heap.size w w') (w : World) (R : EnvR w) :
    Calls Tryz.prog 28 #[.string s] w fun e w' => e = .returned (.tuple #[.string ⟨#[]⟩, .int .i64 15]) ∧ Below w.heap.size w w' := by
  have c1 : ∀ w, EnvR w → Calls Tryz.prog 64 #[.string (s.extract 1 s.size), .string ⟨#[47]⟩] w fun e w' => e = .returned (.tuple #[.string u, .string v, .bool false]) ∧ Below w.heap.size w w' := fun w R => c1' w R
  have c2 : ∀ w, EnvR w → Calls Tryz.prog 88 #[.string (s.extract 1 s.size)] w fun e w' => e = .returned (.tuple #[.string n0, .string d0]) ∧ Below w.heap.size w w' := fun w R => c2' w R
  have c3 : ∀ w, EnvR w → Calls Tryz.prog 89 #[.string n0] w fun e w' => e = .returned (.bool false) ∧ Below w.heap.size w w' := fun w R => c3' w R
  have C1 := Lib.hid c1
  have C2 := Lib.hid c2
  have C3 := Lib.hid c3
  clear c1 c2 c3 c1' c2' c3'
  have h0' : (0 : Int) < (s.size : Int) := by omega
  have he : (s.toList == []) = false := by rw [Lib.toList_data, beq_eq_false_iff_ne]; intro h; rw [size_len, h] at h0; exact absurd h0 (by decide)
  have hb := Below.refl w.heap.size w
  go_enter Tryz.func28, Tryz.ntmps28
  go_wp2
  go_quiet (fail)
  go_wp2_with (first | (go_at_call 64; first | ((with_reducible refine (chain hb (C1.out _ (R.below hb))).mono ?_); clear hb; rintro e w1 ⟨rfl, hb⟩) | ((with_reducible refine (chain (below_drewN w _) (C1.out _ (R.below (below_drewN w _)))).mono ?_); clear hb; rintro e w1 ⟨rfl, hb⟩)) | (go_at_call 88; ((with_reducible refine (chain hb (C2.out _ (R.below hb))).mono ?_); clear hb; rintro e w1 ⟨rfl, hb⟩)) | (go_at_call 89; ((with_reducible refine (chain hb (C3.out _ (R.below hb))).mono ?_); clear hb; rintro e w1 ⟨rfl, hb⟩)))
  go_ret2
  exact ⟨rfl, hb⟩
set_option maxRecDepth 100000 in
set_option maxHeartbeats 1000000 in
theorem parse_mdd (s n0 d0 u v : ByteArray) (h0 : 0 < s.size) (hs : s.size ≤ 1000000) (_hn0 : n0.size ≤ 1000000) (hp : ((s[0].toNat : Int) == 43) = false) (hm : ((s[0].toNat : Int) == 45) = true) (c1' : ∀ w, EnvR w → Calls Tryz.prog 64 #[.string (s.extract 1 s.size), .string ⟨#[47]⟩] w fun e w' => e = .returned (.tuple #[.string u, .string v, .bool false]) ∧ Below w.heap.size w w') (c2' : ∀ w, EnvR w → Calls Tryz.prog 88 #[.string (s.extract 1 s.size)] w fun e w' => e = .returned (.tuple #[.string n0, .string d0]) ∧ Below w.heap.size w w') (c3' : ∀ w, EnvR w → Calls Tryz.prog 89 #[.string n0] w fun e w' => e = .returned (.bool true) ∧ Below w.heap.size w w') (c4' : ∀ w, EnvR w → Calls Tryz.prog 89 #[.string d0] w fun e w' => e = .returned (.bool false) ∧ Below w.heap.size w w') (w : World) (R : EnvR w) :
    Calls Tryz.prog 28 #[.string s] w fun e w' => e = .returned (.tuple #[.string ⟨#[]⟩, .int .i64 15]) ∧ Below w.heap.size w w' := by
  have c1 : ∀ w, EnvR w → Calls Tryz.prog 64 #[.string (s.extract 1 s.size), .string ⟨#[47]⟩] w fun e w' => e = .returned (.tuple #[.string u, .string v, .bool false]) ∧ Below w.heap.size w w' := fun w R => c1' w R
  have c2 : ∀ w, EnvR w → Calls Tryz.prog 88 #[.string (s.extract 1 s.size)] w fun e w' => e = .returned (.tuple #[.string n0, .string d0]) ∧ Below w.heap.size w w' := fun w R => c2' w R
  have c3 : ∀ w, EnvR w → Calls Tryz.prog 89 #[.string n0] w fun e w' => e = .returned (.bool true) ∧ Below w.heap.size w w' := fun w R => c3' w R
  have c4 : ∀ w, EnvR w → Calls Tryz.prog 89 #[.string d0] w fun e w' => e = .returned (.bool false) ∧ Below w.heap.size w w' := fun w R => c4' w R
  have C1 := Lib.hid c1
  have C2 := Lib.hid c2
  have C3 := Lib.hid c3
  have C4 := Lib.hid c4
  clear c1 c2 c3 c4 c1' c2' c3' c4'
  have h0' : (0 : Int) < (s.size : Int) := by omega
  have he : (s.toList == []) = false := by rw [Lib.toList_data, beq_eq_false_iff_ne]; intro h; rw [size_len, h] at h0; exact absurd h0 (by decide)
  have hb := Below.refl w.heap.size w
  go_enter Tryz.func28, Tryz.ntmps28
  go_wp2
  go_quiet (fail)
  go_wp2_with (first | (go_at_call 64; first | ((with_reducible refine (chain hb (C1.out _ (R.below hb))).mono ?_); clear hb; rintro e w1 ⟨rfl, hb⟩) | ((with_reducible refine (chain (below_drewN w _) (C1.out _ (R.below (below_drewN w _)))).mono ?_); clear hb; rintro e w1 ⟨rfl, hb⟩)) | (go_at_call 88; ((with_reducible refine (chain hb (C2.out _ (R.below hb))).mono ?_); clear hb; rintro e w1 ⟨rfl, hb⟩)) | (go_at_call 89; first | ((with_reducible refine (chain hb (C3.out _ (R.below hb))).mono ?_); clear hb; rintro e w1 ⟨rfl, hb⟩) | ((with_reducible refine (chain hb (C4.out _ (R.below hb))).mono ?_); clear hb; rintro e w1 ⟨rfl, hb⟩)))
  go_ret2
  exact ⟨rfl, hb⟩
set_option maxRecDepth 100000 in
set_option maxHeartbeats 1000000 in
theorem parse_mdl (s n0 d0 u v : ByteArray) (h0 : 0 < s.size) (hs : s.size ≤ 1000000) (_hn0 : n0.size ≤ 1000000) (hp : ((s[0].toNat : Int) == 43) = false) (hm : ((s[0].toNat : Int) == 45) = true) (hl : 200 < (s.size : Int)) (c1' : ∀ w, EnvR w → Calls Tryz.prog 64 #[.string (s.extract 1 s.size), .string ⟨#[47]⟩] w fun e w' => e = .returned (.tuple #[.string u, .string v, .bool false]) ∧ Below w.heap.size w w') (c2' : ∀ w, EnvR w → Calls Tryz.prog 88 #[.string (s.extract 1 s.size)] w fun e w' => e = .returned (.tuple #[.string n0, .string d0]) ∧ Below w.heap.size w w') (c3' : ∀ w, EnvR w → Calls Tryz.prog 89 #[.string n0] w fun e w' => e = .returned (.bool true) ∧ Below w.heap.size w w') (c4' : ∀ w, EnvR w → Calls Tryz.prog 89 #[.string d0] w fun e w' => e = .returned (.bool true) ∧ Below w.heap.size w w') (w : World) (R : EnvR w) :
    Calls Tryz.prog 28 #[.string s] w fun e w' => e = .returned (.tuple #[.string ⟨#[]⟩, .int .i64 16]) ∧ Below w.heap.size w w' := by
  have c1 : ∀ w, EnvR w → Calls Tryz.prog 64 #[.string (s.extract 1 s.size), .string ⟨#[47]⟩] w fun e w' => e = .returned (.tuple #[.string u, .string v, .bool false]) ∧ Below w.heap.size w w' := fun w R => c1' w R
  have c2 : ∀ w, EnvR w → Calls Tryz.prog 88 #[.string (s.extract 1 s.size)] w fun e w' => e = .returned (.tuple #[.string n0, .string d0]) ∧ Below w.heap.size w w' := fun w R => c2' w R
  have c3 : ∀ w, EnvR w → Calls Tryz.prog 89 #[.string n0] w fun e w' => e = .returned (.bool true) ∧ Below w.heap.size w w' := fun w R => c3' w R
  have c4 : ∀ w, EnvR w → Calls Tryz.prog 89 #[.string d0] w fun e w' => e = .returned (.bool true) ∧ Below w.heap.size w w' := fun w R => c4' w R
  have C1 := Lib.hid c1
  have C2 := Lib.hid c2
  have C3 := Lib.hid c3
  have C4 := Lib.hid c4
  clear c1 c2 c3 c4 c1' c2' c3' c4'
  have h0' : (0 : Int) < (s.size : Int) := by omega
  have he : (s.toList == []) = false := by rw [Lib.toList_data, beq_eq_false_iff_ne]; intro h; rw [size_len, h] at h0; exact absurd h0 (by decide)
  have hb := Below.refl w.heap.size w
  go_enter Tryz.func28, Tryz.ntmps28
  go_wp2
  go_quiet (fail)
  go_wp2_with (first | (go_at_call 64; first | ((with_reducible refine (chain hb (C1.out _ (R.below hb))).mono ?_); clear hb; rintro e w1 ⟨rfl, hb⟩) | ((with_reducible refine (chain (below_drewN w _) (C1.out _ (R.below (below_drewN w _)))).mono ?_); clear hb; rintro e w1 ⟨rfl, hb⟩)) | (go_at_call 88; ((with_reducible refine (chain hb (C2.out _ (R.below hb))).mono ?_); clear hb; rintro e w1 ⟨rfl, hb⟩)) | (go_at_call 89; first | ((with_reducible refine (chain hb (C3.out _ (R.below hb))).mono ?_); clear hb; rintro e w1 ⟨rfl, hb⟩) | ((with_reducible refine (chain hb (C4.out _ (R.below hb))).mono ?_); clear hb; rintro e w1 ⟨rfl, hb⟩)))
  go_ret2
  exact ⟨rfl, hb⟩
set_option maxRecDepth 100000 in
set_option maxHeartbeats 1000000 in
theorem parse_mdy (s n0 d0 u v t b r : ByteArray) (z e1 e2 : Int) (h0 : 0 < s.size) (hs : s.size ≤ 1000000) (hn0 : n0.size ≤ 1000000) (hp : ((s[0].toNat : Int) == 43) = false) (hm : ((s[0].toNat : Int) == 45) = true) (hl : (s.size : Int) ≤ 200) (c1' : ∀ w, EnvR w → Calls Tryz.prog 64 #[.string (s.extract 1 s.size), .string ⟨#[47]⟩] w fun e w' => e = .returned (.tuple #[.string u, .string v, .bool false]) ∧ Below w.heap.size w w') (c2' : ∀ w, EnvR w → Calls Tryz.prog 88 #[.string (s.extract 1 s.size)] w fun e w' => e = .returned (.tuple #[.string n0, .string d0]) ∧ Below w.heap.size w w') (c3' : ∀ w, EnvR w → Calls Tryz.prog 89 #[.string n0] w fun e w' => e = .returned (.bool true) ∧ Below w.heap.size w w') (c4' : ∀ w, EnvR w → Calls Tryz.prog 89 #[.string d0] w fun e w' => e = .returned (.bool true) ∧ Below w.heap.size w w') (c5' : ∀ w, EnvR w → Calls Tryz.prog 90 #[.string ((s.extract 0 1) ++ n0)] w fun e w' => e = .returned (.tuple #[.string t, .int .i64 e1]) ∧ Below w.heap.size w w') (c6' : ∀ w, EnvR w → Calls Tryz.prog 90 #[.string d0] w fun e w' => e = .returned (.tuple #[.string b, .int .i64 e2]) ∧ Below w.heap.size w w') (c7' : ∀ w, EnvR w → Calls Tryz.prog 22 #[.string t, .string b] w fun e w' => e = .returned (.tuple #[.string r, .int .i64 z]) ∧ Below w.heap.size w w') (w : World) (R : EnvR w) :
    Calls Tryz.prog 28 #[.string s] w fun e w' => e = .returned (.tuple #[.string r, .int .i64 z]) ∧ Below w.heap.size w w' := by
  have c1 : ∀ w, EnvR w → Calls Tryz.prog 64 #[.string (s.extract 1 s.size), .string ⟨#[47]⟩] w fun e w' => e = .returned (.tuple #[.string u, .string v, .bool false]) ∧ Below w.heap.size w w' := fun w R => c1' w R
  have c2 : ∀ w, EnvR w → Calls Tryz.prog 88 #[.string (s.extract 1 s.size)] w fun e w' => e = .returned (.tuple #[.string n0, .string d0]) ∧ Below w.heap.size w w' := fun w R => c2' w R
  have c3 : ∀ w, EnvR w → Calls Tryz.prog 89 #[.string n0] w fun e w' => e = .returned (.bool true) ∧ Below w.heap.size w w' := fun w R => c3' w R
  have c4 : ∀ w, EnvR w → Calls Tryz.prog 89 #[.string d0] w fun e w' => e = .returned (.bool true) ∧ Below w.heap.size w w' := fun w R => c4' w R
  have c5 : ∀ w, EnvR w → Calls Tryz.prog 90 #[.string ((s.extract 0 1) ++ n0)] w fun e w' => e = .returned (.tuple #[.string t, .int .i64 e1]) ∧ Below w.heap.size w w' := fun w R => c5' w R
  have c6 : ∀ w, EnvR w → Calls Tryz.prog 90 #[.string d0] w fun e w' => e = .returned (.tuple #[.string b, .int .i64 e2]) ∧ Below w.heap.size w w' := fun w R => c6' w R
  have c7 : ∀ w, EnvR w → Calls Tryz.prog 22 #[.string t, .string b] w fun e w' => e = .returned (.tuple #[.string r, .int .i64 z]) ∧ Below w.heap.size w w' := fun w R => c7' w R
  have C1 := Lib.hid c1
  have C2 := Lib.hid c2
  have C3 := Lib.hid c3
  have C4 := Lib.hid c4
  have C5 := Lib.hid c5
  have C6 := Lib.hid c6
  have C7 := Lib.hid c7
  clear c1 c2 c3 c4 c5 c6 c7 c1' c2' c3' c4' c5' c6' c7'
  have h0' : (0 : Int) < (s.size : Int) := by omega
  have he : (s.toList == []) = false := by rw [Lib.toList_data, beq_eq_false_iff_ne]; intro h; rw [size_len, h] at h0; exact absurd h0 (by decide)
  have hb := Below.refl w.heap.size w
  go_enter Tryz.func28, Tryz.ntmps28
  go_wp2
  go_quiet (fail)
  go_wp2_with (first | (go_at_call 64; first | ((with_reducible refine (chain hb (C1.out _ (R.below hb))).mono ?_); clear hb; rintro e w1 ⟨rfl, hb⟩) | ((with_reducible refine (chain (below_drewN w _) (C1.out _ (R.below (below_drewN w _)))).mono ?_); clear hb; rintro e w1 ⟨rfl, hb⟩)) | (go_at_call 88; ((with_reducible refine (chain hb (C2.out _ (R.below hb))).mono ?_); clear hb; rintro e w1 ⟨rfl, hb⟩)) | (go_at_call 89; first | ((with_reducible refine (chain hb (C3.out _ (R.below hb))).mono ?_); clear hb; rintro e w1 ⟨rfl, hb⟩) | ((with_reducible refine (chain hb (C4.out _ (R.below hb))).mono ?_); clear hb; rintro e w1 ⟨rfl, hb⟩)) | (go_at_call 90; first | ((with_reducible refine (chain hb (C5.out _ (R.below hb))).mono ?_); clear hb; rintro e w1 ⟨rfl, hb⟩) | ((with_reducible refine (chain hb (C6.out _ (R.below hb))).mono ?_); clear hb; rintro e w1 ⟨rfl, hb⟩)) | (go_at_call 22; ((with_reducible refine (chain hb (C7.out _ (R.below hb))).mono ?_); clear hb; rintro e w1 ⟨rfl, hb⟩)))
  go_ret2
  exact ⟨rfl, hb⟩
set_option maxRecDepth 100000 in
set_option maxHeartbeats 200000 in
theorem parse_empty (s : ByteArray) (h : (s.toList == []) = true) (w : World) (_R : EnvR w) :
    Calls Tryz.prog 28 #[.string s] w fun e w' => e = .returned (.tuple #[.string ⟨#[]⟩, .int .i64 13]) ∧ Below w.heap.size w w' := by
  have hb := Below.refl w.heap.size w
  go_enter Tryz.func28, Tryz.ntmps28
  go_wp2
  go_ret2
  exact ⟨rfl, hb⟩
end Go.Proofs.YtgllflfifbacnaaGreatDoor.Kl
