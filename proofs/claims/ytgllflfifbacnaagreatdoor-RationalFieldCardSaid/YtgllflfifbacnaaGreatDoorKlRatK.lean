/- Contracts: the reference's Right, the program's Check, the statements' fits. -/
import Derived.Test.YtgllflfifbacnaaGreatDoorKlRatS
import Derived.Test.YtgllflfifbacnaaGreatDoorKlCanon
namespace Go.Proofs.YtgllflfifbacnaaGreatDoor.Kl
open Go Go.RowKit

set_option maxRecDepth 100000 in
set_option maxHeartbeats 400000 in
theorem right_a (s a b : ByteArray) (c1' : ∀ w, EnvR w → Calls Tryz.prog 16 #[.string s] w fun e w' => e = .returned (.tuple #[.string a, .string b]) ∧ Below w.heap.size w w') (c2' : ∀ w, EnvR w → Calls Tryz.prog 21 #[.string a] w fun e w' => e = .returned (.bool false) ∧ Below w.heap.size w w') (w : World) (R : EnvR w) :
    Calls Tryz.prog 14 #[.string s] w fun e w' => e = .returned (.bool false) ∧ Below w.heap.size w w' := by
  have c1 : ∀ w, EnvR w → Calls Tryz.prog 16 #[.string s] w fun e w' => e = .returned (.tuple #[.string a, .string b]) ∧ Below w.heap.size w w' := fun w R => c1' w R
  have c2 : ∀ w, EnvR w → Calls Tryz.prog 21 #[.string a] w fun e w' => e = .returned (.bool false) ∧ Below w.heap.size w w' := fun w R => c2' w R
  have C1 := Lib.hid c1
  have C2 := Lib.hid c2
  clear c1 c2 c1' c2'
  have hb := Below.refl w.heap.size w
  go_enter Tryz.func14, Tryz.ntmps14
  go_wp2_with (first | (go_at_call 16; ((with_reducible refine (chain hb (C1.out _ (R.below hb))).mono ?_); clear hb; rintro e w1 ⟨rfl, hb⟩)) | (go_at_call 21; ((with_reducible refine (chain hb (C2.out _ (R.below hb))).mono ?_); clear hb; rintro e w1 ⟨rfl, hb⟩)))
  go_ret
  exact ⟨rfl, hb⟩
set_option maxRecDepth 100000 in
set_option maxHeartbeats 400000 in
theorem right_b (s a b : ByteArray) (c1' : ∀ w, EnvR w → Calls Tryz.prog 16 #[.string s] w fun e w' => e = .returned (.tuple #[.string a, .string b]) ∧ Below w.heap.size w w') (c2' : ∀ w, EnvR w → Calls Tryz.prog 21 #[.string a] w fun e w' => e = .returned (.bool true) ∧ Below w.heap.size w w') (c3' : ∀ w, EnvR w → Calls Tryz.prog 21 #[.string b] w fun e w' => e = .returned (.bool false) ∧ Below w.heap.size w w') (w : World) (R : EnvR w) :
    Calls Tryz.prog 14 #[.string s] w fun e w' => e = .returned (.bool false) ∧ Below w.heap.size w w' := by
  have c1 : ∀ w, EnvR w → Calls Tryz.prog 16 #[.string s] w fun e w' => e = .returned (.tuple #[.string a, .string b]) ∧ Below w.heap.size w w' := fun w R => c1' w R
  have c2 : ∀ w, EnvR w → Calls Tryz.prog 21 #[.string a] w fun e w' => e = .returned (.bool true) ∧ Below w.heap.size w w' := fun w R => c2' w R
  have c3 : ∀ w, EnvR w → Calls Tryz.prog 21 #[.string b] w fun e w' => e = .returned (.bool false) ∧ Below w.heap.size w w' := fun w R => c3' w R
  have C1 := Lib.hid c1
  have C2 := Lib.hid c2
  have C3 := Lib.hid c3
  clear c1 c2 c3 c1' c2' c3'
  have hb := Below.refl w.heap.size w
  go_enter Tryz.func14, Tryz.ntmps14
  go_wp2_with (first | (go_at_call 16; ((with_reducible refine (chain hb (C1.out _ (R.below hb))).mono ?_); clear hb; rintro e w1 ⟨rfl, hb⟩)) | (go_at_call 21; first | ((with_reducible refine (chain hb (C2.out _ (R.below hb))).mono ?_); clear hb; rintro e w1 ⟨rfl, hb⟩) | ((with_reducible refine (chain hb (C3.out _ (R.below hb))).mono ?_); clear hb; rintro e w1 ⟨rfl, hb⟩)))
  go_ret
  exact ⟨rfl, hb⟩
set_option maxRecDepth 100000 in
set_option maxHeartbeats 400000 in
theorem right_c (s a b : ByteArray) (i : Int) (hi : i < 0) (c1' : ∀ w, EnvR w → Calls Tryz.prog 16 #[.string s] w fun e w' => e = .returned (.tuple #[.string a, .string b]) ∧ Below w.heap.size w w') (c2' : ∀ w, EnvR w → Calls Tryz.prog 21 #[.string a] w fun e w' => e = .returned (.bool true) ∧ Below w.heap.size w w') (c3' : ∀ w, EnvR w → Calls Tryz.prog 21 #[.string b] w fun e w' => e = .returned (.bool true) ∧ Below w.heap.size w w') (c4' : ∀ w, EnvR w → Calls Tryz.prog 61 #[.string s, .int .u8 47] w fun e w' => e = .returned (.int .i64 i) ∧ Below w.heap.size w w') (w : World) (R : EnvR w) :
    Calls Tryz.prog 14 #[.string s] w fun e w' => e = .returned (.bool true) ∧ Below w.heap.size w w' := by
  have c1 : ∀ w, EnvR w → Calls Tryz.prog 16 #[.string s] w fun e w' => e = .returned (.tuple #[.string a, .string b]) ∧ Below w.heap.size w w' := fun w R => c1' w R
  have c2 : ∀ w, EnvR w → Calls Tryz.prog 21 #[.string a] w fun e w' => e = .returned (.bool true) ∧ Below w.heap.size w w' := fun w R => c2' w R
  have c3 : ∀ w, EnvR w → Calls Tryz.prog 21 #[.string b] w fun e w' => e = .returned (.bool true) ∧ Below w.heap.size w w' := fun w R => c3' w R
  have c4 : ∀ w, EnvR w → Calls Tryz.prog 61 #[.string s, .int .u8 47] w fun e w' => e = .returned (.int .i64 i) ∧ Below w.heap.size w w' := fun w R => c4' w R
  have C1 := Lib.hid c1
  have C2 := Lib.hid c2
  have C3 := Lib.hid c3
  have C4 := Lib.hid c4
  clear c1 c2 c3 c4 c1' c2' c3' c4'
  have hb := Below.refl w.heap.size w
  go_enter Tryz.func14, Tryz.ntmps14
  go_wp2_with (first | (go_at_call 16; ((with_reducible refine (chain hb (C1.out _ (R.below hb))).mono ?_); clear hb; rintro e w1 ⟨rfl, hb⟩)) | (go_at_call 21; first | ((with_reducible refine (chain hb (C2.out _ (R.below hb))).mono ?_); clear hb; rintro e w1 ⟨rfl, hb⟩) | ((with_reducible refine (chain hb (C3.out _ (R.below hb))).mono ?_); clear hb; rintro e w1 ⟨rfl, hb⟩)) | (go_at_call 61; ((with_reducible refine (chain hb (C4.out _ (R.below hb))).mono ?_); clear hb; rintro e w1 ⟨rfl, hb⟩)))
  go_ret
  exact ⟨rfl, hb⟩
set_option maxRecDepth 100000 in
set_option maxHeartbeats 400000 in
theorem right_d (s a b : ByteArray) (i c : Int) (hi : 0 ≤ i) (hc : c ≤ 0) (c1' : ∀ w, EnvR w → Calls Tryz.prog 16 #[.string s] w fun e w' => e = .returned (.tuple #[.string a, .string b]) ∧ Below w.heap.size w w') (c2' : ∀ w, EnvR w → Calls Tryz.prog 21 #[.string a] w fun e w' => e = .returned (.bool true) ∧ Below w.heap.size w w') (c3' : ∀ w, EnvR w → Calls Tryz.prog 21 #[.string b] w fun e w' => e = .returned (.bool true) ∧ Below w.heap.size w w') (c4' : ∀ w, EnvR w → Calls Tryz.prog 61 #[.string s, .int .u8 47] w fun e w' => e = .returned (.int .i64 i) ∧ Below w.heap.size w w') (c5' : ∀ w, EnvR w → Calls Tryz.prog 62 #[.string b, .string ⟨#[49]⟩] w fun e w' => e = .returned (.int .i64 c) ∧ Below w.heap.size w w') (w : World) (R : EnvR w) :
    Calls Tryz.prog 14 #[.string s] w fun e w' => e = .returned (.bool false) ∧ Below w.heap.size w w' := by
  have c1 : ∀ w, EnvR w → Calls Tryz.prog 16 #[.string s] w fun e w' => e = .returned (.tuple #[.string a, .string b]) ∧ Below w.heap.size w w' := fun w R => c1' w R
  have c2 : ∀ w, EnvR w → Calls Tryz.prog 21 #[.string a] w fun e w' => e = .returned (.bool true) ∧ Below w.heap.size w w' := fun w R => c2' w R
  have c3 : ∀ w, EnvR w → Calls Tryz.prog 21 #[.string b] w fun e w' => e = .returned (.bool true) ∧ Below w.heap.size w w' := fun w R => c3' w R
  have c4 : ∀ w, EnvR w → Calls Tryz.prog 61 #[.string s, .int .u8 47] w fun e w' => e = .returned (.int .i64 i) ∧ Below w.heap.size w w' := fun w R => c4' w R
  have c5 : ∀ w, EnvR w → Calls Tryz.prog 62 #[.string b, .string ⟨#[49]⟩] w fun e w' => e = .returned (.int .i64 c) ∧ Below w.heap.size w w' := fun w R => c5' w R
  have C1 := Lib.hid c1
  have C2 := Lib.hid c2
  have C3 := Lib.hid c3
  have C4 := Lib.hid c4
  have C5 := Lib.hid c5
  clear c1 c2 c3 c4 c5 c1' c2' c3' c4' c5'
  have hb := Below.refl w.heap.size w
  go_enter Tryz.func14, Tryz.ntmps14
  go_wp2_with (first | (go_at_call 16; ((with_reducible refine (chain hb (C1.out _ (R.below hb))).mono ?_); clear hb; rintro e w1 ⟨rfl, hb⟩)) | (go_at_call 21; first | ((with_reducible refine (chain hb (C2.out _ (R.below hb))).mono ?_); clear hb; rintro e w1 ⟨rfl, hb⟩) | ((with_reducible refine (chain hb (C3.out _ (R.below hb))).mono ?_); clear hb; rintro e w1 ⟨rfl, hb⟩)) | (go_at_call 61; ((with_reducible refine (chain hb (C4.out _ (R.below hb))).mono ?_); clear hb; rintro e w1 ⟨rfl, hb⟩)) | (go_at_call 62; ((with_reducible refine (chain hb (C5.out _ (R.below hb))).mono ?_); clear hb; rintro e w1 ⟨rfl, hb⟩)))
  go_ret
  exact ⟨rfl, hb⟩
set_option maxRecDepth 100000 in
set_option maxHeartbeats 400000 in
theorem right_e (s a b : ByteArray) (i c : Int) (hi : 0 ≤ i) (hc : 0 < c) (h0 : (a.toList == [48]) = true) (c1' : ∀ w, EnvR w → Calls Tryz.prog 16 #[.string s] w fun e w' => e = .returned (.tuple #[.string a, .string b]) ∧ Below w.heap.size w w') (c2' : ∀ w, EnvR w → Calls Tryz.prog 21 #[.string a] w fun e w' => e = .returned (.bool true) ∧ Below w.heap.size w w') (c3' : ∀ w, EnvR w → Calls Tryz.prog 21 #[.string b] w fun e w' => e = .returned (.bool true) ∧ Below w.heap.size w w') (c4' : ∀ w, EnvR w → Calls Tryz.prog 61 #[.string s, .int .u8 47] w fun e w' => e = .returned (.int .i64 i) ∧ Below w.heap.size w w') (c5' : ∀ w, EnvR w → Calls Tryz.prog 62 #[.string b, .string ⟨#[49]⟩] w fun e w' => e = .returned (.int .i64 c) ∧ Below w.heap.size w w') (w : World) (R : EnvR w) :
    Calls Tryz.prog 14 #[.string s] w fun e w' => e = .returned (.bool false) ∧ Below w.heap.size w w' := by
  have c1 : ∀ w, EnvR w → Calls Tryz.prog 16 #[.string s] w fun e w' => e = .returned (.tuple #[.string a, .string b]) ∧ Below w.heap.size w w' := fun w R => c1' w R
  have c2 : ∀ w, EnvR w → Calls Tryz.prog 21 #[.string a] w fun e w' => e = .returned (.bool true) ∧ Below w.heap.size w w' := fun w R => c2' w R
  have c3 : ∀ w, EnvR w → Calls Tryz.prog 21 #[.string b] w fun e w' => e = .returned (.bool true) ∧ Below w.heap.size w w' := fun w R => c3' w R
  have c4 : ∀ w, EnvR w → Calls Tryz.prog 61 #[.string s, .int .u8 47] w fun e w' => e = .returned (.int .i64 i) ∧ Below w.heap.size w w' := fun w R => c4' w R
  have c5 : ∀ w, EnvR w → Calls Tryz.prog 62 #[.string b, .string ⟨#[49]⟩] w fun e w' => e = .returned (.int .i64 c) ∧ Below w.heap.size w w' := fun w R => c5' w R
  have C1 := Lib.hid c1
  have C2 := Lib.hid c2
  have C3 := Lib.hid c3
  have C4 := Lib.hid c4
  have C5 := Lib.hid c5
  clear c1 c2 c3 c4 c5 c1' c2' c3' c4' c5'
  have hb := Below.refl w.heap.size w
  go_enter Tryz.func14, Tryz.ntmps14
  go_wp2_with (first | (go_at_call 16; ((with_reducible refine (chain hb (C1.out _ (R.below hb))).mono ?_); clear hb; rintro e w1 ⟨rfl, hb⟩)) | (go_at_call 21; first | ((with_reducible refine (chain hb (C2.out _ (R.below hb))).mono ?_); clear hb; rintro e w1 ⟨rfl, hb⟩) | ((with_reducible refine (chain hb (C3.out _ (R.below hb))).mono ?_); clear hb; rintro e w1 ⟨rfl, hb⟩)) | (go_at_call 61; ((with_reducible refine (chain hb (C4.out _ (R.below hb))).mono ?_); clear hb; rintro e w1 ⟨rfl, hb⟩)) | (go_at_call 62; ((with_reducible refine (chain hb (C5.out _ (R.below hb))).mono ?_); clear hb; rintro e w1 ⟨rfl, hb⟩)))
  go_ret
  exact ⟨rfl, hb⟩
set_option maxRecDepth 100000 in
set_option maxHeartbeats 400000 in
theorem right_f_true (s a b g : ByteArray) (i c : Int) (hi : 0 ≤ i) (hc : 0 < c) (h0 : (a.toList == [48]) = false) (hg : (g.toList == [49]) = true) (c1' : ∀ w, EnvR w → Calls Tryz.prog 16 #[.string s] w fun e w' => e = .returned (.tuple #[.string a, .string b]) ∧ Below w.heap.size w w') (c2' : ∀ w, EnvR w → Calls Tryz.prog 21 #[.string a] w fun e w' => e = .returned (.bool true) ∧ Below w.heap.size w w') (c3' : ∀ w, EnvR w → Calls Tryz.prog 21 #[.string b] w fun e w' => e = .returned (.bool true) ∧ Below w.heap.size w w') (c4' : ∀ w, EnvR w → Calls Tryz.prog 61 #[.string s, .int .u8 47] w fun e w' => e = .returned (.int .i64 i) ∧ Below w.heap.size w w') (c5' : ∀ w, EnvR w → Calls Tryz.prog 62 #[.string b, .string ⟨#[49]⟩] w fun e w' => e = .returned (.int .i64 c) ∧ Below w.heap.size w w') (c6' : ∀ w, EnvR w → Calls Tryz.prog 63 #[.string a, .string b] w fun e w' => e = .returned (.string g) ∧ Below w.heap.size w w') (w : World) (R : EnvR w) :
    Calls Tryz.prog 14 #[.string s] w fun e w' => e = .returned (.bool true) ∧ Below w.heap.size w w' := by
  have c1 : ∀ w, EnvR w → Calls Tryz.prog 16 #[.string s] w fun e w' => e = .returned (.tuple #[.string a, .string b]) ∧ Below w.heap.size w w' := fun w R => c1' w R
  have c2 : ∀ w, EnvR w → Calls Tryz.prog 21 #[.string a] w fun e w' => e = .returned (.bool true) ∧ Below w.heap.size w w' := fun w R => c2' w R
  have c3 : ∀ w, EnvR w → Calls Tryz.prog 21 #[.string b] w fun e w' => e = .returned (.bool true) ∧ Below w.heap.size w w' := fun w R => c3' w R
  have c4 : ∀ w, EnvR w → Calls Tryz.prog 61 #[.string s, .int .u8 47] w fun e w' => e = .returned (.int .i64 i) ∧ Below w.heap.size w w' := fun w R => c4' w R
  have c5 : ∀ w, EnvR w → Calls Tryz.prog 62 #[.string b, .string ⟨#[49]⟩] w fun e w' => e = .returned (.int .i64 c) ∧ Below w.heap.size w w' := fun w R => c5' w R
  have c6 : ∀ w, EnvR w → Calls Tryz.prog 63 #[.string a, .string b] w fun e w' => e = .returned (.string g) ∧ Below w.heap.size w w' := fun w R => c6' w R
  have C1 := Lib.hid c1
  have C2 := Lib.hid c2
  have C3 := Lib.hid c3
  have C4 := Lib.hid c4
  have C5 := Lib.hid c5
  have C6 := Lib.hid c6
  clear c1 c2 c3 c4 c5 c6 c1' c2' c3' c4' c5' c6'
  have hb := Below.refl w.heap.size w
  go_enter Tryz.func14, Tryz.ntmps14
  go_wp2_with (first | (go_at_call 16; ((with_reducible refine (chain hb (C1.out _ (R.below hb))).mono ?_); clear hb; rintro e w1 ⟨rfl, hb⟩)) | (go_at_call 21; first | ((with_reducible refine (chain hb (C2.out _ (R.below hb))).mono ?_); clear hb; rintro e w1 ⟨rfl, hb⟩) | ((with_reducible refine (chain hb (C3.out _ (R.below hb))).mono ?_); clear hb; rintro e w1 ⟨rfl, hb⟩)) | (go_at_call 61; ((with_reducible refine (chain hb (C4.out _ (R.below hb))).mono ?_); clear hb; rintro e w1 ⟨rfl, hb⟩)) | (go_at_call 62; ((with_reducible refine (chain hb (C5.out _ (R.below hb))).mono ?_); clear hb; rintro e w1 ⟨rfl, hb⟩)) | (go_at_call 63; ((with_reducible refine (chain hb (C6.out _ (R.below hb))).mono ?_); clear hb; rintro e w1 ⟨rfl, hb⟩)))
  go_ret
  exact ⟨rfl, hb⟩
set_option maxRecDepth 100000 in
set_option maxHeartbeats 400000 in
theorem right_f_false (s a b g : ByteArray) (i c : Int) (hi : 0 ≤ i) (hc : 0 < c) (h0 : (a.toList == [48]) = false) (hg : (g.toList == [49]) = false) (c1' : ∀ w, EnvR w → Calls Tryz.prog 16 #[.string s] w fun e w' => e = .returned (.tuple #[.string a, .string b]) ∧ Below w.heap.size w w') (c2' : ∀ w, EnvR w → Calls Tryz.prog 21 #[.string a] w fun e w' => e = .returned (.bool true) ∧ Below w.heap.size w w') (c3' : ∀ w, EnvR w → Calls Tryz.prog 21 #[.string b] w fun e w' => e = .returned (.bool true) ∧ Below w.heap.size w w') (c4' : ∀ w, EnvR w → Calls Tryz.prog 61 #[.string s, .int .u8 47] w fun e w' => e = .returned (.int .i64 i) ∧ Below w.heap.size w w') (c5' : ∀ w, EnvR w → Calls Tryz.prog 62 #[.string b, .string ⟨#[49]⟩] w fun e w' => e = .returned (.int .i64 c) ∧ Below w.heap.size w w') (c6' : ∀ w, EnvR w → Calls Tryz.prog 63 #[.string a, .string b] w fun e w' => e = .returned (.string g) ∧ Below w.heap.size w w') (w : World) (R : EnvR w) :
    Calls Tryz.prog 14 #[.string s] w fun e w' => e = .returned (.bool false) ∧ Below w.heap.size w w' := by
  have c1 : ∀ w, EnvR w → Calls Tryz.prog 16 #[.string s] w fun e w' => e = .returned (.tuple #[.string a, .string b]) ∧ Below w.heap.size w w' := fun w R => c1' w R
  have c2 : ∀ w, EnvR w → Calls Tryz.prog 21 #[.string a] w fun e w' => e = .returned (.bool true) ∧ Below w.heap.size w w' := fun w R => c2' w R
  have c3 : ∀ w, EnvR w → Calls Tryz.prog 21 #[.string b] w fun e w' => e = .returned (.bool true) ∧ Below w.heap.size w w' := fun w R => c3' w R
  have c4 : ∀ w, EnvR w → Calls Tryz.prog 61 #[.string s, .int .u8 47] w fun e w' => e = .returned (.int .i64 i) ∧ Below w.heap.size w w' := fun w R => c4' w R
  have c5 : ∀ w, EnvR w → Calls Tryz.prog 62 #[.string b, .string ⟨#[49]⟩] w fun e w' => e = .returned (.int .i64 c) ∧ Below w.heap.size w w' := fun w R => c5' w R
  have c6 : ∀ w, EnvR w → Calls Tryz.prog 63 #[.string a, .string b] w fun e w' => e = .returned (.string g) ∧ Below w.heap.size w w' := fun w R => c6' w R
  have C1 := Lib.hid c1
  have C2 := Lib.hid c2
  have C3 := Lib.hid c3
  have C4 := Lib.hid c4
  have C5 := Lib.hid c5
  have C6 := Lib.hid c6
  clear c1 c2 c3 c4 c5 c6 c1' c2' c3' c4' c5' c6'
  have hb := Below.refl w.heap.size w
  go_enter Tryz.func14, Tryz.ntmps14
  go_wp2_with (first | (go_at_call 16; ((with_reducible refine (chain hb (C1.out _ (R.below hb))).mono ?_); clear hb; rintro e w1 ⟨rfl, hb⟩)) | (go_at_call 21; first | ((with_reducible refine (chain hb (C2.out _ (R.below hb))).mono ?_); clear hb; rintro e w1 ⟨rfl, hb⟩) | ((with_reducible refine (chain hb (C3.out _ (R.below hb))).mono ?_); clear hb; rintro e w1 ⟨rfl, hb⟩)) | (go_at_call 61; ((with_reducible refine (chain hb (C4.out _ (R.below hb))).mono ?_); clear hb; rintro e w1 ⟨rfl, hb⟩)) | (go_at_call 62; ((with_reducible refine (chain hb (C5.out _ (R.below hb))).mono ?_); clear hb; rintro e w1 ⟨rfl, hb⟩)) | (go_at_call 63; ((with_reducible refine (chain hb (C6.out _ (R.below hb))).mono ?_); clear hb; rintro e w1 ⟨rfl, hb⟩)))
  go_ret
  exact ⟨rfl, hb⟩
theorem right_one (w : World) : Calls Tryz.prog 21 #[.string ⟨#[49]⟩] w fun e w' => e = .returned (.bool true) ∧ Below w.heap.size w w' := right_any ⟨#[49]⟩ w (by decide) true (by decide)
theorem str_split {s : ByteArray} {a b : List UInt8} (h : s.data.toList = a ++ 47 :: b) : s.extract 0 a.length = strOf a ∧ s.extract (a.length + 1) s.size = strOf b := by
  constructor
  · refine dat_inj ?_
    rw [← Lib.toList_data, Lib.extract_toList, h]
    show ((a ++ 47 :: b).drop 0).take (a.length - 0) = a
    simp
  · refine dat_inj ?_
    rw [Lib.extract_to_end, h]
    exact drop_past a b
theorem right_tt {a : List UInt8} {b : Bool} (h : rightB a = b) (hs : a.length ≤ 1000000) (w : World) (_R : EnvR w) : Calls Tryz.prog 21 #[.string (strOf a)] w fun e w' => e = .returned (.bool b) ∧ Below w.heap.size w w' :=
  right_any (strOf a) w (by rw [strOf_size]; exact hs) b h
/-- Whether the parts are those of a right fraction. -/
theorem split_right {a b : List UInt8} (h1 : rightB a = true) (h2 : rightB b = true) : ∃ x y : Int, strOf a = itoaB x ∧ strOf b = itoaB y ∧ dlen x ≤ 200 ∧ dlen y ≤ 200 ∧
    (∀ _h : (47 : UInt8) ∉ a, IsRat (a ++ 47 :: b) ↔ x ≠ 0 ∧ 1 < y ∧ Nat.gcd x.natAbs y.natAbs = 1) := by
  obtain ⟨x, e1, d1⟩ := rightB_iff.1 h1
  obtain ⟨y, e2, d2⟩ := rightB_iff.1 h2
  refine ⟨x, y, by rw [e1]; rfl, by rw [e2]; rfl, d1, d2, fun h => ?_⟩
  rw [isRat_slash h]
  constructor
  · rintro ⟨x', y', f1, f2, _, _, g⟩
    rw [itoaS_inj (e1.symm.trans f1), itoaS_inj (e2.symm.trans f2)]
    exact g
  · intro g
    exact ⟨x, y, e1, e2, d1, d2, g⟩
/-- The reference's Right, at any text. -/
theorem refRRight_any (s : ByteArray) (b : Bool) (hb : b = true ↔ IsRat s.data.toList) (hs : s.size ≤ 100000) (w : World) (R : EnvR w) :
    Calls Tryz.prog 14 #[.string s] w fun e w' => e = .returned (.bool b) ∧ Below w.heap.size w w' := by
  have hix : ∀ w, Calls Tryz.prog 61 #[.string s, .int .u8 47] w fun e w' => e = .returned (.int .i64 (Lib.indexByte s.data.toList 47)) ∧ Below w.heap.size w w' := fun w => by
    refine (Tryz.strings_IndexByte s 47 w).mono ?_
    rintro e w' ⟨he, rfl⟩
    exact ⟨he, Below.refl _ _⟩
  rcases slash_split s.data.toList with hn | ⟨a, d, e, hn⟩
  · rw [isRat_nos hn] at hb
    rw [idx_miss hn] at hix
    have hp : ∀ w, EnvR w → Calls Tryz.prog 16 #[.string s] w fun e w' => e = .returned (.tuple #[.string s, .string ⟨#[49]⟩]) ∧ Below w.heap.size w w' := fun w R => refParts_int s hix w R
    have hr : rightB s.data.toList = b := by rw [Bool.eq_iff_iff]; exact hb.symm
    have c2 : ∀ w, EnvR w → Calls Tryz.prog 21 #[.string s] w fun e w' => e = .returned (.bool b) ∧ Below w.heap.size w w' := fun w _ => right_any s w (by omega) b hr
    cases b with
    | false => exact right_a s _ _ hp c2 w R
    | true => exact right_c s _ _ (-1) (by decide) hp c2 (fun w _ => right_one w) (fun w _ => hix w) w R
  · rw [e] at hb
    have hl : s.size = a.length + 1 + d.length := by rw [size_len, e, List.length_append, List.length_cons]; omega
    obtain ⟨s1, s2⟩ := str_split e
    rw [e, idx_hit hn] at hix
    have hp : ∀ w, EnvR w → Calls Tryz.prog 16 #[.string s] w fun e w' => e = .returned (.tuple #[.string (strOf a), .string (strOf d)]) ∧ Below w.heap.size w w' := fun w R => refParts_frac s _ _ a.length (by omega) (by omega) s1 s2 hix w R
    cases ha : rightB a with
    | false =>
      have hb0 : b = false := by
        cases b with
        | false => rfl
        | true =>
          obtain ⟨x, y, f1, _, d1, _⟩ := (isRat_slash hn).1 (hb.1 rfl)
          rw [rightB_iff.2 ⟨x, f1, d1⟩] at ha; cases ha
      rw [hb0]
      exact right_a s _ _ hp (fun w R => right_tt ha (by omega) w R) w R
    | true =>
      cases hd : rightB d with
      | false =>
        have hb0 : b = false := by
          cases b with
          | false => rfl
          | true =>
            obtain ⟨x, y, _, f2, _, d2, _⟩ := (isRat_slash hn).1 (hb.1 rfl)
            rw [rightB_iff.2 ⟨y, f2, d2⟩] at hd; cases hd
        rw [hb0]
        exact right_b s _ _ hp (fun w R => right_tt ha (by omega) w R) (fun w R => right_tt hd (by omega) w R) w R
      | true =>
        obtain ⟨x, y, e1, e2, d1, d2, hi⟩ := split_right ha hd
        rw [hi hn] at hb
        have k1 := fun w R => right_tt ha (by omega) w R
        have k2 := fun w R => right_tt hd (by omega) w R
        rw [e1, e2] at hp
        rw [e1] at k1
        rw [e2] at k2
        have kc : ∀ w, EnvR w → Calls Tryz.prog 62 #[.string (itoaB y), .string ⟨#[49]⟩] w fun e w' => e = .returned (.int .i64 (y - 1).sign) ∧ Below w.heap.size w w' := fun w R => by
          have := refCompare_any y 1 w R.env (Nat.le_trans d2 (by decide)) (by decide +kernel)
          rwa [itoa_one] at this
        have kg : ∀ w, EnvR w → Calls Tryz.prog 63 #[.string (itoaB x), .string (itoaB y)] w fun e w' => e = .returned (.string (itoaB (Nat.gcd x.natAbs y.natAbs))) ∧ Below w.heap.size w w' := fun w R => refGcd_any x y w R.env (Nat.le_trans d1 (by decide)) (Nat.le_trans d2 (by decide))
        by_cases hy : 1 < y
        · have hc : 0 < (y - 1).sign := by rw [Int.sign_eq_one_of_pos (by omega)]; decide
          by_cases hx : x = 0
          · have hb0 : b = false := by
              cases b with
              | false => rfl
              | true => exact absurd hx (hb.1 rfl).1
            rw [hb0]
            exact right_e s _ _ _ _ (Int.natCast_nonneg _) hc (by rw [str_zero]; exact decide_eq_true hx) hp k1 k2 (fun w _ => hix w) kc w R
          · have h0 : ((itoaB x).toList == [48]) = false := by rw [str_zero]; exact decide_eq_false hx
            by_cases hgc : Nat.gcd x.natAbs y.natAbs = 1
            · have hb0 : b = true := hb.2 ⟨hx, hy, hgc⟩
              rw [hb0]
              exact right_f_true s _ _ _ _ _ (Int.natCast_nonneg _) hc h0 (by rw [str_one, hgc]; rfl) hp k1 k2 (fun w _ => hix w) kc kg w R
            · have hb0 : b = false := by
                cases b with
                | false => rfl
                | true => exact absurd (hb.1 rfl).2.2 hgc
              rw [hb0]
              exact right_f_false s _ _ _ _ _ (Int.natCast_nonneg _) hc h0 (by rw [str_one]; exact decide_eq_false (by omega)) hp k1 k2 (fun w _ => hix w) kc kg w R
        · have hc : (y - 1).sign ≤ 0 := by
            rcases Int.lt_trichotomy (y - 1) 0 with h | h | h
            · rw [Int.sign_eq_neg_one_of_neg h]; decide
            · rw [h]; decide
            · omega
          have hb0 : b = false := by
            cases b with
            | false => rfl
            | true => exact absurd (hb.1 rfl).2.1 hy
          rw [hb0]
          exact right_d s _ _ _ _ (Int.natCast_nonneg _) hc hp k1 k2 (fun w _ => hix w) kc w R
end Go.Proofs.YtgllflfifbacnaaGreatDoor.Kl
