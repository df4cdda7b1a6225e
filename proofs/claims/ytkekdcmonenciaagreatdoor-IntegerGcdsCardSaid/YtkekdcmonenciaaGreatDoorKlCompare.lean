/- Contract: integer's Compare on the texts of integers. -/
import Derived.Test.YtkekdcmonenciaaGreatDoorKlOrder
namespace Go.Proofs.YtkekdcmonenciaaGreatDoor.Kl
open Go Go.RowKit

theorem mag_cmp (X Y : Nat) : orI (Lib.compareInt ((Lib.decDigits X).length : Nat) ((Lib.decDigits Y).length : Nat)) (Lib.compareBytes (Lib.decDigits X) (Lib.decDigits Y)) = Lib.compareInt X Y := by
  have key : ∀ X Y : Nat, (Lib.decDigits X).length < (Lib.decDigits Y).length → X < Y := fun X Y h => by
    refine Nat.lt_of_not_le fun h2 => ?_
    have h3 := dec_len_le Y (Lib.decDigits X).length (Nat.lt_of_le_of_lt h2 (dig_lt X)) (List.length_pos_iff.2 (decDigits_ne _))
    omega
  unfold orI
  rcases Nat.lt_trichotomy (Lib.decDigits X).length (Lib.decDigits Y).length with h | h | h
  · have := key X Y h
    unfold Lib.compareInt
    rw [if_pos (by omega : ((Lib.decDigits X).length : Int) < ((Lib.decDigits Y).length : Int)), if_neg (by decide), if_pos (by omega)]
  · rw [cmp_digs _ _ h (decDigits_dig X) (decDigits_dig Y), val_decDigits, val_decDigits]
    unfold Lib.compareInt
    rw [if_neg (by omega : ¬ ((Lib.decDigits X).length : Int) < ((Lib.decDigits Y).length : Int)), if_neg (by omega : ¬ ((Lib.decDigits X).length : Int) > ((Lib.decDigits Y).length : Int)), if_pos rfl]
  · have := key Y X h
    unfold Lib.compareInt
    rw [if_neg (by omega : ¬ ((Lib.decDigits X).length : Int) < ((Lib.decDigits Y).length : Int)), if_pos (by omega : ((Lib.decDigits X).length : Int) > ((Lib.decDigits Y).length : Int)), if_neg (by decide), if_neg (by omega), if_pos (by omega)]

theorem or_built (l z o : Int) (h : orI l z = o) (w : World) :
    Calls Tryz.prog 64 #[.slice (some ⟨w.heap.size, 0, none⟩) 2 2] (w.alloc (Obj.cells #[.int .i64 l, .int .i64 z] 3)) fun e w' => e = .returned (.int .i64 o) ∧ Below w.heap.size w w' := by
  subst h
  exact chain ((Below.refl w.heap.size w).alloc (Nat.le_refl _) _) (or_two w.heap.size 0 2 l z _ (by rw [World.cell?_alloc_new]; rfl) (by rw [World.cell?_alloc_new]; rfl))
set_option maxRecDepth 100000 in
set_option maxHeartbeats 2000000 in
theorem compare_same (a b : ByteArray) (l z s o : Int) (w : World)
    (s1 : ∀ w, Calls Tryz.prog 31 #[.string a] w fun e w' => e = .returned (.int .i64 s) ∧ Below w.heap.size w w')
    (s2 : ∀ w, Calls Tryz.prog 31 #[.string b] w fun e w' => e = .returned (.int .i64 s) ∧ Below w.heap.size w w')
    (c1 : ∀ w, Calls Tryz.prog 63 #[.int .i64 a.size, .int .i64 b.size] w fun e w' => e = .returned (.int .i64 l) ∧ w' = w)
    (c2 : ∀ w, Calls Tryz.prog 65 #[.string a, .string b] w fun e w' => e = .returned (.int .i64 z) ∧ w' = w)
    (ho : orI l z = o) (hs : s = 1 ∨ s = 0 ∨ s = -1) (ho2 : o = 1 ∨ o = 0 ∨ o = -1) :
    Calls Tryz.prog 30 #[.string a, .string b] w fun e w' => e = .returned (.int .i64 (s * o)) ∧ Below w.heap.size w w' := by
  have c0 : ∀ w, Calls Tryz.prog 63 #[.int .i64 s, .int .i64 s] w fun e w' => e = .returned (.int .i64 0) ∧ w' = w := fun w => by
    have := Tryz.cmp_Compare_int s s w
    rwa [show Lib.compareInt s s = 0 by unfold Lib.compareInt; rw [if_neg (by omega), if_neg (by omega)]] at this
  have OR := Lib.hid (or_built l z o ho)
  have S1 := Lib.hid s1
  have S2 := Lib.hid s2
  have C0 := Lib.hid c0
  have C1 := Lib.hid c1
  have C2 := Lib.hid c2
  clear s1 s2 c0 c1 c2 ho
  have hb := Below.refl w.heap.size w
  rcases hs with rfl | rfl | rfl <;> rcases ho2 with rfl | rfl | rfl <;>
    (go_enter Tryz.func30, Tryz.ntmps30
     go_wp2_with (first | (go_at_call 31; first | (with_reducible refine (chain hb (S1.out _)).mono ?_; clear hb; rintro e w1 ⟨rfl, hb⟩) | (with_reducible refine (chain hb (S2.out _)).mono ?_; clear hb; rintro e w1 ⟨rfl, hb⟩)) | (go_at_call 63; first | (with_reducible refine (C0.out _).mono ?_; rintro e w2 ⟨rfl, rfl⟩) | (with_reducible refine (C1.out _).mono ?_; rintro e w2 ⟨rfl, rfl⟩)) | (go_at_call 65; refine (C2.out _).mono ?_; rintro e w2 ⟨rfl, rfl⟩) | (go_at_call 64; refine (OR.out _).mono ?_; rintro e w3 ⟨rfl, hb1⟩; replace hb := hb.trans (hb1.mono hb.size); clear hb1))
     go_ret
     exact ⟨rfl, hb⟩)
set_option maxRecDepth 100000 in
set_option maxHeartbeats 2000000 in
theorem compare_diff (a b : ByteArray) (s t : Int) (w : World)
    (s1 : ∀ w, Calls Tryz.prog 31 #[.string a] w fun e w' => e = .returned (.int .i64 s) ∧ Below w.heap.size w w')
    (s2 : ∀ w, Calls Tryz.prog 31 #[.string b] w fun e w' => e = .returned (.int .i64 t) ∧ Below w.heap.size w w')
    (o : Int) (ho : Lib.compareInt s t = o) (ho2 : o = 1 ∨ o = -1) :
    Calls Tryz.prog 30 #[.string a, .string b] w fun e w' => e = .returned (.int .i64 o) ∧ Below w.heap.size w w' := by
  have c0 : ∀ w, Calls Tryz.prog 63 #[.int .i64 s, .int .i64 t] w fun e w' => e = .returned (.int .i64 o) ∧ w' = w := fun w => by
    have := Tryz.cmp_Compare_int s t w
    rwa [ho] at this
  have S1 := Lib.hid s1
  have S2 := Lib.hid s2
  have C0 := Lib.hid c0
  clear s1 s2 c0 ho
  have hb := Below.refl w.heap.size w
  rcases ho2 with rfl | rfl <;>
    (go_enter Tryz.func30, Tryz.ntmps30
     go_wp2_with (first
      | (go_at_call 31; first
        | (with_reducible refine (chain hb (S1.out _)).mono ?_; clear hb; rintro e w1 ⟨rfl, hb⟩)
        | (with_reducible refine (chain hb (S2.out _)).mono ?_; clear hb; rintro e w1 ⟨rfl, hb⟩))
      | (go_at_call 63; refine (C0.out _).mono ?_; rintro e w2 ⟨rfl, rfl⟩))
     go_ret
     exact ⟨rfl, hb⟩)
theorem cmpInt_tri (x y : Int) : Lib.compareInt x y = 1 ∨ Lib.compareInt x y = 0 ∨ Lib.compareInt x y = -1 := by
  unfold Lib.compareInt; split
  · exact Or.inr (Or.inr rfl)
  · split
    · exact Or.inl rfl
    · exact Or.inr (Or.inl rfl)
theorem itoa_size (x : Int) : ((itoaB x).size : Int) = dlen x + (if x < 0 then 1 else 0) := by
  unfold itoaB; rw [strOf_size, itoa_len]; split <;> omega
theorem cmpInt_add (x y k : Int) : Lib.compareInt (x + k) (y + k) = Lib.compareInt x y := by
  unfold Lib.compareInt
  by_cases h : x < y
  · rw [if_pos h, if_pos (by omega)]
  · rw [if_neg h, if_neg (by omega)]
    by_cases h2 : x > y
    · rw [if_pos h2, if_pos (by omega)]
    · rw [if_neg h2, if_neg (by omega)]
theorem sign_cmp (x y : Int) : (x - y).sign = Lib.compareInt x y := by
  unfold Lib.compareInt
  rcases Int.lt_trichotomy x y with h | h | h
  · rw [if_pos h, Int.sign_eq_neg_one_of_neg (by omega)]
  · rw [if_neg (by omega), if_neg (by omega), h, Int.sub_self]; rfl
  · rw [if_neg (by omega), if_pos h, Int.sign_eq_one_of_pos (by omega)]
/-- The program's order. -/
theorem compare_any (x y : Int) (w : World) :
    Calls Tryz.prog 30 #[.string (itoaB x), .string (itoaB y)] w fun e w' => e = .returned (.int .i64 (x - y).sign) ∧ Below w.heap.size w w' := by
  rw [sign_cmp]
  by_cases hs : x.sign = y.sign
  · have hxy : (x < 0 ∧ y < 0) ∨ (x = 0 ∧ y = 0) ∨ (0 < x ∧ 0 < y) := by
      rcases Int.lt_trichotomy x 0 with h | h | h <;> rcases Int.lt_trichotomy y 0 with h2 | h2 | h2 <;>
        simp_all [Int.sign_eq_neg_one_of_neg, Int.sign_eq_one_of_pos]
    have hm := mag_cmp x.natAbs y.natAbs
    have hor : orI (Lib.compareInt (itoaB x).size (itoaB y).size) (Lib.compareBytes (itoaB x).data.toList (itoaB y).data.toList) = Lib.compareInt x.natAbs y.natAbs := by
      rw [← hm, itoa_size, itoa_size, itoaB_data, itoaB_data]
      rcases hxy with ⟨h1, h2⟩ | h
      · rw [if_pos h1, if_pos h2, cmpInt_add]
        unfold Lib.itoa
        rw [if_pos h1, if_pos h2]
        rfl
      · have h1 : ¬ x < 0 := by omega
        have h2 : ¬ y < 0 := by omega
        rw [if_neg h1, if_neg h2, cmpInt_add, itoa_nat x (by omega), itoa_nat y (by omega), show x.toNat = x.natAbs by omega, show y.toNat = y.natAbs by omega]
        rfl
    have := compare_same (itoaB x) (itoaB y) _ _ x.sign _ w (fun w => sign_any x w) (fun w => by rw [hs]; exact sign_any y w) (fun w => Tryz.cmp_Compare_int _ _ w) (fun w => Tryz.strings_Compare _ _ w) hor
      (by rcases Int.lt_trichotomy x 0 with h | h | h
          · exact Or.inr (Or.inr (Int.sign_eq_neg_one_of_neg h))
          · exact Or.inr (Or.inl (by rw [h]; rfl))
          · exact Or.inl (Int.sign_eq_one_of_pos h)) (cmpInt_tri _ _)
    have e : x.sign * Lib.compareInt x.natAbs y.natAbs = Lib.compareInt x y := by
      rcases hxy with ⟨h1, h2⟩ | ⟨h1, h2⟩ | ⟨h1, h2⟩
      · rw [Int.sign_eq_neg_one_of_neg h1]
        unfold Lib.compareInt
        rcases Int.lt_trichotomy x y with h | h | h
        · rw [if_neg (by omega), if_pos (by omega), if_pos h]; rfl
        · rw [if_neg (by omega), if_neg (by omega), if_neg (by omega), if_neg (by omega)]; rfl
        · rw [if_pos (by omega), if_neg (by omega), if_pos h]; rfl
      · rw [h1, h2]; rfl
      · rw [Int.sign_eq_one_of_pos h1, show ((x.natAbs : Nat) : Int) = x by omega, show ((y.natAbs : Nat) : Int) = y by omega, Int.one_mul]
    rwa [e] at this
  · have e : Lib.compareInt x.sign y.sign = Lib.compareInt x y ∧ (Lib.compareInt x y = 1 ∨ Lib.compareInt x y = -1) := by
      have key : ∀ z : Int, (z < 0 ∧ z.sign = -1) ∨ (z = 0 ∧ z.sign = 0) ∨ (0 < z ∧ z.sign = 1) := fun z => by
        rcases Int.lt_trichotomy z 0 with h | h | h
        · exact Or.inl ⟨h, Int.sign_eq_neg_one_of_neg h⟩
        · exact Or.inr (Or.inl ⟨h, by rw [h]; rfl⟩)
        · exact Or.inr (Or.inr ⟨h, Int.sign_eq_one_of_pos h⟩)
      have kx := key x
      have ky := key y
      by_cases h : x < y
      · have e1 : Lib.compareInt x y = -1 := by unfold Lib.compareInt; rw [if_pos h]
        have e2 : Lib.compareInt x.sign y.sign = -1 := by unfold Lib.compareInt; rw [if_pos (by omega)]
        exact ⟨by rw [e1, e2], Or.inr e1⟩
      · have hne : x ≠ y := fun h => hs (by rw [h])
        have e1 : Lib.compareInt x y = 1 := by unfold Lib.compareInt; rw [if_neg h, if_pos (by omega)]
        have e2 : Lib.compareInt x.sign y.sign = 1 := by unfold Lib.compareInt; rw [if_neg (by omega), if_pos (by omega)]
        exact ⟨by rw [e1, e2], Or.inl e1⟩
    exact compare_diff (itoaB x) (itoaB y) x.sign y.sign w (fun w => sign_any x w) (fun w => sign_any y w) _ e.1 e.2
set_option maxHeartbeats 1000000 in
/-- The program's magnitude. -/
theorem abs_any (x : Int) (w : World) :
    Calls Tryz.prog 32 #[.string (itoaB x)] w fun e w' => e = .returned (.string (itoaB x.natAbs)) ∧ Below w.heap.size w w' := by
  have e : magB (itoaB x) = itoaB x.natAbs := by
    rw [magB_itoa]; unfold itoaB; rw [itoa_nat _ (by omega)]; rfl
  rw [← e]
  obtain ⟨a, ha⟩ : ∃ a, itoaB x = a := ⟨_, rfl⟩
  rw [ha]
  clear e ha
  go_enter Tryz.func32, Tryz.ntmps32
  go_wp2_with (go_at_call 51; refine (magnitude_any _ _).mono ?_; rintro e w1 ⟨rfl, rfl⟩)
  go_ret
  exact ⟨rfl, Below.refl _ _⟩
end Go.Proofs.YtkekdcmonenciaaGreatDoor.Kl
