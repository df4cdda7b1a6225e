/- The walk of klippelaw02.RationalNews: true, whatever the texts and the ints. -/
import Derived.Test.YtgllflfifbacnaaGreatDoorKlRatQ
import Derived.Test.YtgllflfifbacnaaGreatDoorKlKnown2
namespace Go.Proofs.YtgllflfifbacnaaGreatDoor.Kl
open Go Go.RowKit

set_option maxRecDepth 100000 in
set_option maxHeartbeats 2000000 in
theorem lawNews_o1 (s t : ByteArray) (hm : s.size ≤ 9223372036854775807) (_hm' : t.size ≤ 9223372036854775807) (a b : Int) (_a0 : -9223372036854775808 ≤ a) (_a1 : a ≤ 9223372036854775807) (_b0 : -9223372036854775808 ≤ b) (_b1 : b ≤ 9223372036854775807) (h : 60 < s.size) (w : World) (R : EnvR w) :
    Calls Tryz.prog 4 #[.string s, .string t, .agg #[.int .i64 a, .int .i64 b]] w fun e w' => e = .returned (.bool true) ∧ Below w.heap.size w w' := by
  have c1 : ∀ w, EnvR w → Calls Tryz.prog 13 #[] w fun e w' => e = .returned (.bool true) ∧ Below w.heap.size w w' := fun w R => known2_any w R
  have C1 := Lib.hid c1
  clear c1
  have hb0' : Below w.heap.size w (w.alloc (Obj.cells #[Value.int .i64 a, Value.int .i64 b] 34)) := (Below.refl _ _).alloc (Nat.le_refl _) _
  have hb := hb0'
  clear hb0'
  have x0 : (w.alloc (Obj.cells #[Value.int .i64 a, Value.int .i64 b] 34)).cell? ⟨w.heap.size, 0, none⟩ = some (Value.int .i64 a) := by simp [go_sem]
  have x1 : (w.alloc (Obj.cells #[Value.int .i64 a, Value.int .i64 b] 34)).cell? ⟨w.heap.size, 1, none⟩ = some (Value.int .i64 b) := by simp [go_sem]
  go_enter Tryz.func4, Tryz.ntmps4
  go_wp2_with (go_at_call 13; ((with_reducible refine (chain2 hb (C1.out _ (R.below hb))).mono ?_); clear hb; rintro e w1 ⟨rfl, hk, hb⟩; replace x0 := below_cell hk x0; replace x1 := below_cell hk x1; clear hk))
  go_ret
  exact ⟨rfl, hb⟩
set_option maxRecDepth 100000 in
set_option maxHeartbeats 2000000 in
theorem lawNews_o2 (s t : ByteArray) (hm : s.size ≤ 9223372036854775807) (hm' : t.size ≤ 9223372036854775807) (a b : Int) (_a0 : -9223372036854775808 ≤ a) (_a1 : a ≤ 9223372036854775807) (_b0 : -9223372036854775808 ≤ b) (_b1 : b ≤ 9223372036854775807) (h : s.size ≤ 60) (h' : 60 < t.size) (w : World) (R : EnvR w) :
    Calls Tryz.prog 4 #[.string s, .string t, .agg #[.int .i64 a, .int .i64 b]] w fun e w' => e = .returned (.bool true) ∧ Below w.heap.size w w' := by
  have c1 : ∀ w, EnvR w → Calls Tryz.prog 13 #[] w fun e w' => e = .returned (.bool true) ∧ Below w.heap.size w w' := fun w R => known2_any w R
  have C1 := Lib.hid c1
  clear c1
  have hb0' : Below w.heap.size w (w.alloc (Obj.cells #[Value.int .i64 a, Value.int .i64 b] 34)) := (Below.refl _ _).alloc (Nat.le_refl _) _
  have hb := hb0'
  clear hb0'
  have x0 : (w.alloc (Obj.cells #[Value.int .i64 a, Value.int .i64 b] 34)).cell? ⟨w.heap.size, 0, none⟩ = some (Value.int .i64 a) := by simp [go_sem]
  have x1 : (w.alloc (Obj.cells #[Value.int .i64 a, Value.int .i64 b] 34)).cell? ⟨w.heap.size, 1, none⟩ = some (Value.int .i64 b) := by simp [go_sem]
  go_enter Tryz.func4, Tryz.ntmps4
  go_wp2_with (go_at_call 13; ((with_reducible refine (chain2 hb (C1.out _ (R.below hb))).mono ?_); clear hb; rintro e w1 ⟨rfl, hk, hb⟩; replace x0 := below_cell hk x0; replace x1 := below_cell hk x1; clear hk))
  go_ret
  exact ⟨rfl, hb⟩
set_option maxRecDepth 100000 in
set_option maxHeartbeats 2000000 in
theorem lawNews_o3 (s t : ByteArray) (hm : s.size ≤ 9223372036854775807) (hm' : t.size ≤ 9223372036854775807) (a b : Int) (_a0 : -9223372036854775808 ≤ a) (_a1 : a ≤ 9223372036854775807) (_b0 : -9223372036854775808 ≤ b) (_b1 : b ≤ 9223372036854775807) (h : s.size ≤ 60) (h' : t.size ≤ 60) (hr : rightB s.data.toList = false) (w : World) (R : EnvR w) :
    Calls Tryz.prog 4 #[.string s, .string t, .agg #[.int .i64 a, .int .i64 b]] w fun e w' => e = .returned (.bool true) ∧ Below w.heap.size w w' := by
  have c1 : ∀ w, EnvR w → Calls Tryz.prog 13 #[] w fun e w' => e = .returned (.bool true) ∧ Below w.heap.size w w' := fun w R => known2_any w R
  have c2 : ∀ w, EnvR w → Calls Tryz.prog 21 #[.string s] w fun e w' => e = .returned (.bool false) ∧ Below w.heap.size w w' := fun w R => right_any s w (by omega) false hr
  have C1 := Lib.hid c1
  have C2 := Lib.hid c2
  clear c1 c2 hr
  have hb0' : Below w.heap.size w (w.alloc (Obj.cells #[Value.int .i64 a, Value.int .i64 b] 34)) := (Below.refl _ _).alloc (Nat.le_refl _) _
  have hb := hb0'
  clear hb0'
  have x0 : (w.alloc (Obj.cells #[Value.int .i64 a, Value.int .i64 b] 34)).cell? ⟨w.heap.size, 0, none⟩ = some (Value.int .i64 a) := by simp [go_sem]
  have x1 : (w.alloc (Obj.cells #[Value.int .i64 a, Value.int .i64 b] 34)).cell? ⟨w.heap.size, 1, none⟩ = some (Value.int .i64 b) := by simp [go_sem]
  go_enter Tryz.func4, Tryz.ntmps4
  go_wp2_with (first | (go_at_call 13; ((with_reducible refine (chain2 hb (C1.out _ (R.below hb))).mono ?_); clear hb; rintro e w1 ⟨rfl, hk, hb⟩; replace x0 := below_cell hk x0; replace x1 := below_cell hk x1; clear hk)) | (go_at_call 21; ((with_reducible refine (chain2 hb (C2.out _ (R.below hb))).mono ?_); clear hb; rintro e w1 ⟨rfl, hk, hb⟩; replace x0 := below_cell hk x0; replace x1 := below_cell hk x1; clear hk)))
  go_ret
  exact ⟨rfl, hb⟩
set_option maxRecDepth 100000 in
set_option maxHeartbeats 2000000 in
theorem lawNews_o4 (s t : ByteArray) (hm : s.size ≤ 9223372036854775807) (hm' : t.size ≤ 9223372036854775807) (a b : Int) (_a0 : -9223372036854775808 ≤ a) (_a1 : a ≤ 9223372036854775807) (_b0 : -9223372036854775808 ≤ b) (_b1 : b ≤ 9223372036854775807) (h : s.size ≤ 60) (h' : t.size ≤ 60) (hr0 : rightB s.data.toList = true) (hr : rightB t.data.toList = false) (w : World) (R : EnvR w) :
    Calls Tryz.prog 4 #[.string s, .string t, .agg #[.int .i64 a, .int .i64 b]] w fun e w' => e = .returned (.bool true) ∧ Below w.heap.size w w' := by
  have c1 : ∀ w, EnvR w → Calls Tryz.prog 13 #[] w fun e w' => e = .returned (.bool true) ∧ Below w.heap.size w w' := fun w R => known2_any w R
  have c2 : ∀ w, EnvR w → Calls Tryz.prog 21 #[.string s] w fun e w' => e = .returned (.bool true) ∧ Below w.heap.size w w' := fun w R => right_any s w (by omega) true hr0
  have c3 : ∀ w, EnvR w → Calls Tryz.prog 21 #[.string t] w fun e w' => e = .returned (.bool false) ∧ Below w.heap.size w w' := fun w R => right_any t w (by omega) false hr
  have C1 := Lib.hid c1
  have C2 := Lib.hid c2
  have C3 := Lib.hid c3
  clear c1 c2 c3 hr
  have hb0' : Below w.heap.size w (w.alloc (Obj.cells #[Value.int .i64 a, Value.int .i64 b] 34)) := (Below.refl _ _).alloc (Nat.le_refl _) _
  have hb := hb0'
  clear hb0'
  have x0 : (w.alloc (Obj.cells #[Value.int .i64 a, Value.int .i64 b] 34)).cell? ⟨w.heap.size, 0, none⟩ = some (Value.int .i64 a) := by simp [go_sem]
  have x1 : (w.alloc (Obj.cells #[Value.int .i64 a, Value.int .i64 b] 34)).cell? ⟨w.heap.size, 1, none⟩ = some (Value.int .i64 b) := by simp [go_sem]
  go_enter Tryz.func4, Tryz.ntmps4
  go_wp2_with (first | (go_at_call 13; ((with_reducible refine (chain2 hb (C1.out _ (R.below hb))).mono ?_); clear hb; rintro e w1 ⟨rfl, hk, hb⟩; replace x0 := below_cell hk x0; replace x1 := below_cell hk x1; clear hk)) | (go_at_call 21; first | ((with_reducible refine (chain2 hb (C2.out _ (R.below hb))).mono ?_); clear hb; rintro e w1 ⟨rfl, hk, hb⟩; replace x0 := below_cell hk x0; replace x1 := below_cell hk x1; clear hk) | ((with_reducible refine (chain2 hb (C3.out _ (R.below hb))).mono ?_); clear hb; rintro e w1 ⟨rfl, hk, hb⟩; replace x0 := below_cell hk x0; replace x1 := below_cell hk x1; clear hk)))
  go_ret
  exact ⟨rfl, hb⟩
set_option maxRecDepth 100000 in
set_option maxHeartbeats 4000000 in
theorem lawNews_zz (x y : Int) (h : (itoaB x).size ≤ 60) (h' : (itoaB y).size ≤ 60) (hrx : rightB (itoaB x).data.toList = true) (hry : rightB (itoaB y).data.toList = true) (_hx : dlen x ≤ 200) (_hy : dlen y ≤ 200) (a : Int) (a0 : -9223372036854775808 ≤ a) (a1 : a ≤ 9223372036854775807) (hy0 : y = 0) (w : World) (R : EnvR w) :
    Calls Tryz.prog 4 #[.string (itoaB x), .string (itoaB y), .agg #[.int .i64 a, .int .i64 0]] w fun e w' => e = .returned (.bool true) ∧ Below w.heap.size w w' := by
  have c1 : ∀ w, EnvR w → Calls Tryz.prog 13 #[] w fun e w' => e = .returned (.bool true) ∧ Below w.heap.size w w' := fun w R => known2_any w R
  have c2 : ∀ w, EnvR w → Calls Tryz.prog 21 #[.string (itoaB x)] w fun e w' => e = .returned (.bool true) ∧ Below w.heap.size w w' := fun w R => right_any _ w (by omega) true hrx
  have c3 : ∀ w, EnvR w → Calls Tryz.prog 21 #[.string (itoaB y)] w fun e w' => e = .returned (.bool true) ∧ Below w.heap.size w w' := fun w R => right_any _ w (by omega) true hry
  have c4 : ∀ w, EnvR w → Calls Tryz.prog 22 #[.string (itoaB x), .string (itoaB y)] w fun e w' => e = .returned (.tuple #[.string ⟨#[]⟩, .int .i64 17]) ∧ Below w.heap.size w w' := fun w R => by rw [hy0]; exact rnew_zero _ w R
  have c5 : ∀ w, EnvR w → Calls Tryz.prog 23 #[.int .i64 a, .int .i64 0] w fun e w' => e = .returned (.tuple #[.string ⟨#[]⟩, .int .i64 17]) ∧ Below w.heap.size w w' := fun w R => rof_zero a a0 a1 w R
  have c6 : ∀ w, EnvR w → Calls Tryz.prog 24 #[.int .i64 a] w fun e w' => e = .returned (.string (itoaB a)) ∧ Below w.heap.size w w' := fun w R => rwhole_any a a0 a1 w R
  have c7 : ∀ w, EnvR w → Calls Tryz.prog 20 #[.int .i64 a] w fun e w' => e = .returned (.string (itoaB a)) ∧ Below w.heap.size w w' := fun w R => refOf_any a a0 a1 w R.env
  have hsx : (itoaB x).size ≤ 60 := h
  have hsy : (itoaB y).size ≤ 60 := h'
  have z0 : ((itoaB y).toList == [48]) = true := by rw [str_zero]; exact decide_eq_true hy0
  obtain ⟨va, eva⟩ : ∃ v, itoaB a = v := ⟨_, rfl⟩
  try simp only [eva] at c1 c2 c3 c4 c5 c6 c7 hsx hsy z0 ⊢
  obtain ⟨vx, evx⟩ : ∃ v, itoaB x = v := ⟨_, rfl⟩
  try simp only [evx] at c1 c2 c3 c4 c5 c6 c7 hsx hsy z0 ⊢
  obtain ⟨vy, evy⟩ : ∃ v, itoaB y = v := ⟨_, rfl⟩
  try simp only [evy] at c1 c2 c3 c4 c5 c6 c7 hsx hsy z0 ⊢
  have C1 := Lib.hid c1
  have C2 := Lib.hid c2
  have C3 := Lib.hid c3
  have C4 := Lib.hid c4
  have C5 := Lib.hid c5
  have C6 := Lib.hid c6
  have C7 := Lib.hid c7
  clear c1 c2 c3 c4 c5 c6 c7 eva evx evy hrx hry hy0 h h'
  have hb0' : Below w.heap.size w (w.alloc (Obj.cells #[Value.int .i64 a, Value.int .i64 0] 34)) := (Below.refl _ _).alloc (Nat.le_refl _) _
  have hb := hb0'
  clear hb0'
  have x0 : (w.alloc (Obj.cells #[Value.int .i64 a, Value.int .i64 0] 34)).cell? ⟨w.heap.size, 0, none⟩ = some (Value.int .i64 a) := by simp [go_sem]
  have x1 : (w.alloc (Obj.cells #[Value.int .i64 a, Value.int .i64 0] 34)).cell? ⟨w.heap.size, 1, none⟩ = some (Value.int .i64 0) := by simp [go_sem]
  go_enter Tryz.func4, Tryz.ntmps4
  go_upto_region 5 with (first | (go_at_call 13; ((with_reducible refine (chain2 hb (C1.out _ (R.below hb))).mono ?_); clear hb; rintro e w1 ⟨rfl, hk, hb⟩; replace x0 := below_cell hk x0; replace x1 := below_cell hk x1; clear hk)) | (go_at_call 21; first | ((with_reducible refine (chain2 hb (C2.out _ (R.below hb))).mono ?_); clear hb; rintro e w1 ⟨rfl, hk, hb⟩; replace x0 := below_cell hk x0; replace x1 := below_cell hk x1; clear hk) | ((with_reducible refine (chain2 hb (C3.out _ (R.below hb))).mono ?_); clear hb; rintro e w1 ⟨rfl, hk, hb⟩; replace x0 := below_cell hk x0; replace x1 := below_cell hk x1; clear hk)) | (go_at_call 22; ((with_reducible refine (chain2 hb (C4.out _ (R.below hb))).mono ?_); clear hb; rintro e w1 ⟨rfl, hk, hb⟩; replace x0 := below_cell hk x0; replace x1 := below_cell hk x1; clear hk)) | (go_at_call 23; ((with_reducible refine (chain2 hb (C5.out _ (R.below hb))).mono ?_); clear hb; rintro e w1 ⟨rfl, hk, hb⟩; replace x0 := below_cell hk x0; replace x1 := below_cell hk x1; clear hk)) | (go_at_call 24; ((with_reducible refine (chain2 hb (C6.out _ (R.below hb))).mono ?_); clear hb; rintro e w1 ⟨rfl, hk, hb⟩; replace x0 := below_cell hk x0; replace x1 := below_cell hk x1; clear hk)) | (go_at_call 20; ((with_reducible refine (chain2 hb (C7.out _ (R.below hb))).mono ?_); clear hb; rintro e w1 ⟨rfl, hk, hb⟩; replace x0 := below_cell hk x0; replace x1 := below_cell hk x1; clear hk)))
  have yx0 := cell_regrown x0
  have yx1 := cell_regrown x1
  have RR1 := Lib.hid (fun d os => Calls.regrown_of (C1.out (Sort.grow (redrawn w1 d) os) (R.below (hb.trans ((below_regrown w1 d os).mono hb.size)))))
  have RR2 := Lib.hid (fun d os => Calls.regrown_of (C2.out (Sort.grow (redrawn w1 d) os) (R.below (hb.trans ((below_regrown w1 d os).mono hb.size)))))
  have RR3 := Lib.hid (fun d os => Calls.regrown_of (C3.out (Sort.grow (redrawn w1 d) os) (R.below (hb.trans ((below_regrown w1 d os).mono hb.size)))))
  have RR4 := Lib.hid (fun d os => Calls.regrown_of (C4.out (Sort.grow (redrawn w1 d) os) (R.below (hb.trans ((below_regrown w1 d os).mono hb.size)))))
  have RR5 := Lib.hid (fun d os => Calls.regrown_of (C5.out (Sort.grow (redrawn w1 d) os) (R.below (hb.trans ((below_regrown w1 d os).mono hb.size)))))
  have RR6 := Lib.hid (fun d os => Calls.regrown_of (C6.out (Sort.grow (redrawn w1 d) os) (R.below (hb.trans ((below_regrown w1 d os).mono hb.size)))))
  have RR7 := Lib.hid (fun d os => Calls.regrown_of (C7.out (Sort.grow (redrawn w1 d) os) (R.below (hb.trans ((below_regrown w1 d os).mono hb.size)))))
  refine wp_region_quiet_below (by first | assumption | kernel_rfl) (by kernel_rfl) ?_
  repeat (quiet_step (first | (with_reducible exact RR1.out _ _) | (with_reducible exact RR2.out _ _) | (with_reducible exact RR3.out _ _) | (with_reducible exact RR4.out _ _) | (with_reducible exact RR5.out _ _) | (with_reducible exact RR6.out _ _) | (with_reducible exact RR7.out _ _)))
  refine wpQuiet_nil ?_
  intro _ hw'
  obtain ⟨⟨dq, osq⟩, hw''⟩ := hw'
  subst hw''
  replace hb := hb.trans ((below_regrown w1 dq osq).mono hb.size)
  replace x0 := yx0 dq osq
  replace x1 := yx1 dq osq
  clear RR1 RR2 RR3 RR4 RR5 RR6 RR7 yx0 yx1
  obtain ⟨w1, hw2⟩ : ∃ w2, Sort.grow (redrawn w1 dq) osq = w2 := ⟨_, rfl⟩
  rw [hw2] at hb x0 x1 ⊢
  clear hw2
  go_wp2_with (first | (go_at_call 13; ((with_reducible refine (chain2 hb (C1.out _ (R.below hb))).mono ?_); clear hb; rintro e w1 ⟨rfl, hk, hb⟩; replace x0 := below_cell hk x0; replace x1 := below_cell hk x1; clear hk)) | (go_at_call 21; first | ((with_reducible refine (chain2 hb (C2.out _ (R.below hb))).mono ?_); clear hb; rintro e w1 ⟨rfl, hk, hb⟩; replace x0 := below_cell hk x0; replace x1 := below_cell hk x1; clear hk) | ((with_reducible refine (chain2 hb (C3.out _ (R.below hb))).mono ?_); clear hb; rintro e w1 ⟨rfl, hk, hb⟩; replace x0 := below_cell hk x0; replace x1 := below_cell hk x1; clear hk)) | (go_at_call 22; ((with_reducible refine (chain2 hb (C4.out _ (R.below hb))).mono ?_); clear hb; rintro e w1 ⟨rfl, hk, hb⟩; replace x0 := below_cell hk x0; replace x1 := below_cell hk x1; clear hk)) | (go_at_call 23; ((with_reducible refine (chain2 hb (C5.out _ (R.below hb))).mono ?_); clear hb; rintro e w1 ⟨rfl, hk, hb⟩; replace x0 := below_cell hk x0; replace x1 := below_cell hk x1; clear hk)) | (go_at_call 24; ((with_reducible refine (chain2 hb (C6.out _ (R.below hb))).mono ?_); clear hb; rintro e w1 ⟨rfl, hk, hb⟩; replace x0 := below_cell hk x0; replace x1 := below_cell hk x1; clear hk)) | (go_at_call 20; ((with_reducible refine (chain2 hb (C7.out _ (R.below hb))).mono ?_); clear hb; rintro e w1 ⟨rfl, hk, hb⟩; replace x0 := below_cell hk x0; replace x1 := below_cell hk x1; clear hk)))
  go_ret
  exact ⟨rfl, hb⟩
set_option maxRecDepth 100000 in
set_option maxHeartbeats 4000000 in
theorem lawNews_zn (x y : Int) (h : (itoaB x).size ≤ 60) (h' : (itoaB y).size ≤ 60) (hrx : rightB (itoaB x).data.toList = true) (hry : rightB (itoaB y).data.toList = true) (_hx : dlen x ≤ 200) (_hy : dlen y ≤ 200) (a b : Int) (a0 : -9223372036854775808 ≤ a) (a1 : a ≤ 9223372036854775807) (b0 : -9223372036854775808 ≤ b) (b1 : b ≤ 9223372036854775807) (hy0 : y = 0) (hb0 : b ≠ 0) (w : World) (R : EnvR w) :
    Calls Tryz.prog 4 #[.string (itoaB x), .string (itoaB y), .agg #[.int .i64 a, .int .i64 b]] w fun e w' => e = .returned (.bool true) ∧ Below w.heap.size w w' := by
  have c1 : ∀ w, EnvR w → Calls Tryz.prog 13 #[] w fun e w' => e = .returned (.bool true) ∧ Below w.heap.size w w' := fun w R => known2_any w R
  have c2 : ∀ w, EnvR w → Calls Tryz.prog 21 #[.string (itoaB x)] w fun e w' => e = .returned (.bool true) ∧ Below w.heap.size w w' := fun w R => right_any _ w (by omega) true hrx
  have c3 : ∀ w, EnvR w → Calls Tryz.prog 21 #[.string (itoaB y)] w fun e w' => e = .returned (.bool true) ∧ Below w.heap.size w w' := fun w R => right_any _ w (by omega) true hry
  have c4 : ∀ w, EnvR w → Calls Tryz.prog 22 #[.string (itoaB x), .string (itoaB y)] w fun e w' => e = .returned (.tuple #[.string ⟨#[]⟩, .int .i64 17]) ∧ Below w.heap.size w w' := fun w R => by rw [hy0]; exact rnew_zero _ w R
  have c5 : ∀ w, EnvR w → Calls Tryz.prog 23 #[.int .i64 a, .int .i64 b] w fun e w' => e = .returned (.tuple #[.string (ratB (Rat.divInt a b)), .int .i64 0]) ∧ Below w.heap.size w w' := fun w R => rof_any a b a0 a1 b0 b1 hb0 w R
  have c6 : ∀ w, EnvR w → Calls Tryz.prog 24 #[.int .i64 a] w fun e w' => e = .returned (.string (itoaB a)) ∧ Below w.heap.size w w' := fun w R => rwhole_any a a0 a1 w R
  have c7 : ∀ w, EnvR w → Calls Tryz.prog 20 #[.int .i64 a] w fun e w' => e = .returned (.string (itoaB a)) ∧ Below w.heap.size w w' := fun w R => refOf_any a a0 a1 w R.env
  have c8 : ∀ w, EnvR w → Calls Tryz.prog 25 #[.int .i64 a, .int .i64 b] w fun e w' => e = .returned (.string (ratB (Rat.divInt a b))) ∧ Below w.heap.size w w' := fun w R => refROf_any a b a0 a1 b0 b1 hb0 w R
  have hsx : (itoaB x).size ≤ 60 := h
  have hsy : (itoaB y).size ≤ 60 := h'
  have z0 : ((itoaB y).toList == [48]) = true := by rw [str_zero]; exact decide_eq_true hy0
  obtain ⟨r2, er2⟩ : ∃ v, ratB (Rat.divInt a b) = v := ⟨_, rfl⟩
  try simp only [er2] at c1 c2 c3 c4 c5 c6 c7 c8 hsx hsy z0 ⊢
  obtain ⟨va, eva⟩ : ∃ v, itoaB a = v := ⟨_, rfl⟩
  try simp only [eva] at c1 c2 c3 c4 c5 c6 c7 c8 hsx hsy z0 ⊢
  obtain ⟨vx, evx⟩ : ∃ v, itoaB x = v := ⟨_, rfl⟩
  try simp only [evx] at c1 c2 c3 c4 c5 c6 c7 c8 hsx hsy z0 ⊢
  obtain ⟨vy, evy⟩ : ∃ v, itoaB y = v := ⟨_, rfl⟩
  try simp only [evy] at c1 c2 c3 c4 c5 c6 c7 c8 hsx hsy z0 ⊢
  have C1 := Lib.hid c1
  have C2 := Lib.hid c2
  have C3 := Lib.hid c3
  have C4 := Lib.hid c4
  have C5 := Lib.hid c5
  have C6 := Lib.hid c6
  have C7 := Lib.hid c7
  have C8 := Lib.hid c8
  clear c1 c2 c3 c4 c5 c6 c7 c8 er2 eva evx evy hrx hry hy0 h h'
  have hb0' : Below w.heap.size w (w.alloc (Obj.cells #[Value.int .i64 a, Value.int .i64 b] 34)) := (Below.refl _ _).alloc (Nat.le_refl _) _
  have hb := hb0'
  clear hb0'
  have x0 : (w.alloc (Obj.cells #[Value.int .i64 a, Value.int .i64 b] 34)).cell? ⟨w.heap.size, 0, none⟩ = some (Value.int .i64 a) := by simp [go_sem]
  have x1 : (w.alloc (Obj.cells #[Value.int .i64 a, Value.int .i64 b] 34)).cell? ⟨w.heap.size, 1, none⟩ = some (Value.int .i64 b) := by simp [go_sem]
  go_enter Tryz.func4, Tryz.ntmps4
  go_upto_region 5 with (first | (go_at_call 13; ((with_reducible refine (chain2 hb (C1.out _ (R.below hb))).mono ?_); clear hb; rintro e w1 ⟨rfl, hk, hb⟩; replace x0 := below_cell hk x0; replace x1 := below_cell hk x1; clear hk)) | (go_at_call 21; first | ((with_reducible refine (chain2 hb (C2.out _ (R.below hb))).mono ?_); clear hb; rintro e w1 ⟨rfl, hk, hb⟩; replace x0 := below_cell hk x0; replace x1 := below_cell hk x1; clear hk) | ((with_reducible refine (chain2 hb (C3.out _ (R.below hb))).mono ?_); clear hb; rintro e w1 ⟨rfl, hk, hb⟩; replace x0 := below_cell hk x0; replace x1 := below_cell hk x1; clear hk)) | (go_at_call 22; ((with_reducible refine (chain2 hb (C4.out _ (R.below hb))).mono ?_); clear hb; rintro e w1 ⟨rfl, hk, hb⟩; replace x0 := below_cell hk x0; replace x1 := below_cell hk x1; clear hk)) | (go_at_call 23; ((with_reducible refine (chain2 hb (C5.out _ (R.below hb))).mono ?_); clear hb; rintro e w1 ⟨rfl, hk, hb⟩; replace x0 := below_cell hk x0; replace x1 := below_cell hk x1; clear hk)) | (go_at_call 24; ((with_reducible refine (chain2 hb (C6.out _ (R.below hb))).mono ?_); clear hb; rintro e w1 ⟨rfl, hk, hb⟩; replace x0 := below_cell hk x0; replace x1 := below_cell hk x1; clear hk)) | (go_at_call 20; ((with_reducible refine (chain2 hb (C7.out _ (R.below hb))).mono ?_); clear hb; rintro e w1 ⟨rfl, hk, hb⟩; replace x0 := below_cell hk x0; replace x1 := below_cell hk x1; clear hk)) | (go_at_call 25; ((with_reducible refine (chain2 hb (C8.out _ (R.below hb))).mono ?_); clear hb; rintro e w1 ⟨rfl, hk, hb⟩; replace x0 := below_cell hk x0; replace x1 := below_cell hk x1; clear hk)))
  have yx0 := cell_regrown x0
  have yx1 := cell_regrown x1
  have RR1 := Lib.hid (fun d os => Calls.regrown_of (C1.out (Sort.grow (redrawn w1 d) os) (R.below (hb.trans ((below_regrown w1 d os).mono hb.size)))))
  have RR2 := Lib.hid (fun d os => Calls.regrown_of (C2.out (Sort.grow (redrawn w1 d) os) (R.below (hb.trans ((below_regrown w1 d os).mono hb.size)))))
  have RR3 := Lib.hid (fun d os => Calls.regrown_of (C3.out (Sort.grow (redrawn w1 d) os) (R.below (hb.trans ((below_regrown w1 d os).mono hb.size)))))
  have RR4 := Lib.hid (fun d os => Calls.regrown_of (C4.out (Sort.grow (redrawn w1 d) os) (R.below (hb.trans ((below_regrown w1 d os).mono hb.size)))))
  have RR5 := Lib.hid (fun d os => Calls.regrown_of (C5.out (Sort.grow (redrawn w1 d) os) (R.below (hb.trans ((below_regrown w1 d os).mono hb.size)))))
  have RR6 := Lib.hid (fun d os => Calls.regrown_of (C6.out (Sort.grow (redrawn w1 d) os) (R.below (hb.trans ((below_regrown w1 d os).mono hb.size)))))
  have RR7 := Lib.hid (fun d os => Calls.regrown_of (C7.out (Sort.grow (redrawn w1 d) os) (R.below (hb.trans ((below_regrown w1 d os).mono hb.size)))))
  have RR8 := Lib.hid (fun d os => Calls.regrown_of (C8.out (Sort.grow (redrawn w1 d) os) (R.below (hb.trans ((below_regrown w1 d os).mono hb.size)))))
  refine wp_region_quiet_below (by first | assumption | kernel_rfl) (by kernel_rfl) ?_
  repeat (quiet_step (first | (with_reducible exact RR1.out _ _) | (with_reducible exact RR2.out _ _) | (with_reducible exact RR3.out _ _) | (with_reducible exact RR4.out _ _) | (with_reducible exact RR5.out _ _) | (with_reducible exact RR6.out _ _) | (with_reducible exact RR7.out _ _) | (with_reducible exact RR8.out _ _)))
  refine wpQuiet_nil ?_
  intro _ hw'
  obtain ⟨⟨dq, osq⟩, hw''⟩ := hw'
  subst hw''
  replace hb := hb.trans ((below_regrown w1 dq osq).mono hb.size)
  replace x0 := yx0 dq osq
  replace x1 := yx1 dq osq
  clear RR1 RR2 RR3 RR4 RR5 RR6 RR7 RR8 yx0 yx1
  obtain ⟨w1, hw2⟩ : ∃ w2, Sort.grow (redrawn w1 dq) osq = w2 := ⟨_, rfl⟩
  rw [hw2] at hb x0 x1 ⊢
  clear hw2
  go_wp2_with (first | (go_at_call 13; ((with_reducible refine (chain2 hb (C1.out _ (R.below hb))).mono ?_); clear hb; rintro e w1 ⟨rfl, hk, hb⟩; replace x0 := below_cell hk x0; replace x1 := below_cell hk x1; clear hk)) | (go_at_call 21; first | ((with_reducible refine (chain2 hb (C2.out _ (R.below hb))).mono ?_); clear hb; rintro e w1 ⟨rfl, hk, hb⟩; replace x0 := below_cell hk x0; replace x1 := below_cell hk x1; clear hk) | ((with_reducible refine (chain2 hb (C3.out _ (R.below hb))).mono ?_); clear hb; rintro e w1 ⟨rfl, hk, hb⟩; replace x0 := below_cell hk x0; replace x1 := below_cell hk x1; clear hk)) | (go_at_call 22; ((with_reducible refine (chain2 hb (C4.out _ (R.below hb))).mono ?_); clear hb; rintro e w1 ⟨rfl, hk, hb⟩; replace x0 := below_cell hk x0; replace x1 := below_cell hk x1; clear hk)) | (go_at_call 23; ((with_reducible refine (chain2 hb (C5.out _ (R.below hb))).mono ?_); clear hb; rintro e w1 ⟨rfl, hk, hb⟩; replace x0 := below_cell hk x0; replace x1 := below_cell hk x1; clear hk)) | (go_at_call 24; ((with_reducible refine (chain2 hb (C6.out _ (R.below hb))).mono ?_); clear hb; rintro e w1 ⟨rfl, hk, hb⟩; replace x0 := below_cell hk x0; replace x1 := below_cell hk x1; clear hk)) | (go_at_call 20; ((with_reducible refine (chain2 hb (C7.out _ (R.below hb))).mono ?_); clear hb; rintro e w1 ⟨rfl, hk, hb⟩; replace x0 := below_cell hk x0; replace x1 := below_cell hk x1; clear hk)) | (go_at_call 25; ((with_reducible refine (chain2 hb (C8.out _ (R.below hb))).mono ?_); clear hb; rintro e w1 ⟨rfl, hk, hb⟩; replace x0 := below_cell hk x0; replace x1 := below_cell hk x1; clear hk)))
  go_ret
  exact ⟨rfl, hb⟩
set_option maxRecDepth 100000 in
set_option maxHeartbeats 4000000 in
theorem lawNews_nz (x y : Int) (h : (itoaB x).size ≤ 60) (h' : (itoaB y).size ≤ 60) (hrx : rightB (itoaB x).data.toList = true) (hry : rightB (itoaB y).data.toList = true) (hx : dlen x ≤ 200) (hy : dlen y ≤ 200) (a : Int) (a0 : -9223372036854775808 ≤ a) (a1 : a ≤ 9223372036854775807) (hy0 : y ≠ 0) (w : World) (R : EnvR w) :
    Calls Tryz.prog 4 #[.string (itoaB x), .string (itoaB y), .agg #[.int .i64 a, .int .i64 0]] w fun e w' => e = .returned (.bool true) ∧ Below w.heap.size w w' := by
  have c1 : ∀ w, EnvR w → Calls Tryz.prog 13 #[] w fun e w' => e = .returned (.bool true) ∧ Below w.heap.size w w' := fun w R => known2_any w R
  have c2 : ∀ w, EnvR w → Calls Tryz.prog 21 #[.string (itoaB x)] w fun e w' => e = .returned (.bool true) ∧ Below w.heap.size w w' := fun w R => right_any _ w (by omega) true hrx
  have c3 : ∀ w, EnvR w → Calls Tryz.prog 21 #[.string (itoaB y)] w fun e w' => e = .returned (.bool true) ∧ Below w.heap.size w w' := fun w R => right_any _ w (by omega) true hry
  have c4 : ∀ w, EnvR w → Calls Tryz.prog 22 #[.string (itoaB x), .string (itoaB y)] w fun e w' => e = .returned (.tuple #[.string (ratB (Rat.divInt x y)), .int .i64 0]) ∧ Below w.heap.size w w' := fun w R => rnew_any x y w R (Nat.le_trans hx (by decide)) (Nat.le_trans hy (by decide)) hy0
  have c5 : ∀ w, EnvR w → Calls Tryz.prog 23 #[.int .i64 a, .int .i64 0] w fun e w' => e = .returned (.tuple #[.string ⟨#[]⟩, .int .i64 17]) ∧ Below w.heap.size w w' := fun w R => rof_zero a a0 a1 w R
  have c6 : ∀ w, EnvR w → Calls Tryz.prog 24 #[.int .i64 a] w fun e w' => e = .returned (.string (itoaB a)) ∧ Below w.heap.size w w' := fun w R => rwhole_any a a0 a1 w R
  have c7 : ∀ w, EnvR w → Calls Tryz.prog 20 #[.int .i64 a] w fun e w' => e = .returned (.string (itoaB a)) ∧ Below w.heap.size w w' := fun w R => refOf_any a a0 a1 w R.env
  have c8 : ∀ w, EnvR w → Calls Tryz.prog 26 #[.string (itoaB x), .string (itoaB y)] w fun e w' => e = .returned (.string (ratB (Rat.divInt x y))) ∧ Below w.heap.size w w' := fun w R => refFrac_any x y w R (Nat.le_trans hx (by decide)) (Nat.le_trans hy (by decide)) hy0
  have hsx : (itoaB x).size ≤ 60 := h
  have hsy : (itoaB y).size ≤ 60 := h'
  have z0 : ((itoaB y).toList == [48]) = false := by rw [str_zero]; exact decide_eq_false hy0
  obtain ⟨r1, er1⟩ : ∃ v, ratB (Rat.divInt x y) = v := ⟨_, rfl⟩
  try simp only [er1] at c1 c2 c3 c4 c5 c6 c7 c8 hsx hsy z0 ⊢
  obtain ⟨va, eva⟩ : ∃ v, itoaB a = v := ⟨_, rfl⟩
  try simp only [eva] at c1 c2 c3 c4 c5 c6 c7 c8 hsx hsy z0 ⊢
  obtain ⟨vx, evx⟩ : ∃ v, itoaB x = v := ⟨_, rfl⟩
  try simp only [evx] at c1 c2 c3 c4 c5 c6 c7 c8 hsx hsy z0 ⊢
  obtain ⟨vy, evy⟩ : ∃ v, itoaB y = v := ⟨_, rfl⟩
  try simp only [evy] at c1 c2 c3 c4 c5 c6 c7 c8 hsx hsy z0 ⊢
  have C1 := Lib.hid c1
  have C2 := Lib.hid c2
  have C3 := Lib.hid c3
  have C4 := Lib.hid c4
  have C5 := Lib.hid c5
  have C6 := Lib.hid c6
  have C7 := Lib.hid c7
  have C8 := Lib.hid c8
  clear c1 c2 c3 c4 c5 c6 c7 c8 er1 eva evx evy hrx hry hx hy hy0 h h'
  have hb0' : Below w.heap.size w (w.alloc (Obj.cells #[Value.int .i64 a, Value.int .i64 0] 34)) := (Below.refl _ _).alloc (Nat.le_refl _) _
  have hb := hb0'
  clear hb0'
  have x0 : (w.alloc (Obj.cells #[Value.int .i64 a, Value.int .i64 0] 34)).cell? ⟨w.heap.size, 0, none⟩ = some (Value.int .i64 a) := by simp [go_sem]
  have x1 : (w.alloc (Obj.cells #[Value.int .i64 a, Value.int .i64 0] 34)).cell? ⟨w.heap.size, 1, none⟩ = some (Value.int .i64 0) := by simp [go_sem]
  go_enter Tryz.func4, Tryz.ntmps4
  go_upto_region 5 with (first | (go_at_call 13; ((with_reducible refine (chain2 hb (C1.out _ (R.below hb))).mono ?_); clear hb; rintro e w1 ⟨rfl, hk, hb⟩; replace x0 := below_cell hk x0; replace x1 := below_cell hk x1; clear hk)) | (go_at_call 21; first | ((with_reducible refine (chain2 hb (C2.out _ (R.below hb))).mono ?_); clear hb; rintro e w1 ⟨rfl, hk, hb⟩; replace x0 := below_cell hk x0; replace x1 := below_cell hk x1; clear hk) | ((with_reducible refine (chain2 hb (C3.out _ (R.below hb))).mono ?_); clear hb; rintro e w1 ⟨rfl, hk, hb⟩; replace x0 := below_cell hk x0; replace x1 := below_cell hk x1; clear hk)) | (go_at_call 22; ((with_reducible refine (chain2 hb (C4.out _ (R.below hb))).mono ?_); clear hb; rintro e w1 ⟨rfl, hk, hb⟩; replace x0 := below_cell hk x0; replace x1 := below_cell hk x1; clear hk)) | (go_at_call 23; ((with_reducible refine (chain2 hb (C5.out _ (R.below hb))).mono ?_); clear hb; rintro e w1 ⟨rfl, hk, hb⟩; replace x0 := below_cell hk x0; replace x1 := below_cell hk x1; clear hk)) | (go_at_call 24; ((with_reducible refine (chain2 hb (C6.out _ (R.below hb))).mono ?_); clear hb; rintro e w1 ⟨rfl, hk, hb⟩; replace x0 := below_cell hk x0; replace x1 := below_cell hk x1; clear hk)) | (go_at_call 20; ((with_reducible refine (chain2 hb (C7.out _ (R.below hb))).mono ?_); clear hb; rintro e w1 ⟨rfl, hk, hb⟩; replace x0 := below_cell hk x0; replace x1 := below_cell hk x1; clear hk)) | (go_at_call 26; ((with_reducible refine (chain2 hb (C8.out _ (R.below hb))).mono ?_); clear hb; rintro e w1 ⟨rfl, hk, hb⟩; replace x0 := below_cell hk x0; replace x1 := below_cell hk x1; clear hk)))
  have yx0 := cell_regrown x0
  have yx1 := cell_regrown x1
  have RR1 := Lib.hid (fun d os => Calls.regrown_of (C1.out (Sort.grow (redrawn w1 d) os) (R.below (hb.trans ((below_regrown w1 d os).mono hb.size)))))
  have RR2 := Lib.hid (fun d os => Calls.regrown_of (C2.out (Sort.grow (redrawn w1 d) os) (R.below (hb.trans ((below_regrown w1 d os).mono hb.size)))))
  have RR3 := Lib.hid (fun d os => Calls.regrown_of (C3.out (Sort.grow (redrawn w1 d) os) (R.below (hb.trans ((below_regrown w1 d os).mono hb.size)))))
  have RR4 := Lib.hid (fun d os => Calls.regrown_of (C4.out (Sort.grow (redrawn w1 d) os) (R.below (hb.trans ((below_regrown w1 d os).mono hb.size)))))
  have RR5 := Lib.hid (fun d os => Calls.regrown_of (C5.out (Sort.grow (redrawn w1 d) os) (R.below (hb.trans ((below_regrown w1 d os).mono hb.size)))))
  have RR6 := Lib.hid (fun d os => Calls.regrown_of (C6.out (Sort.grow (redrawn w1 d) os) (R.below (hb.trans ((below_regrown w1 d os).mono hb.size)))))
  have RR7 := Lib.hid (fun d os => Calls.regrown_of (C7.out (Sort.grow (redrawn w1 d) os) (R.below (hb.trans ((below_regrown w1 d os).mono hb.size)))))
  have RR8 := Lib.hid (fun d os => Calls.regrown_of (C8.out (Sort.grow (redrawn w1 d) os) (R.below (hb.trans ((below_regrown w1 d os).mono hb.size)))))
  refine wp_region_quiet_below (by first | assumption | kernel_rfl) (by kernel_rfl) ?_
  repeat (quiet_step (first | (with_reducible exact RR1.out _ _) | (with_reducible exact RR2.out _ _) | (with_reducible exact RR3.out _ _) | (with_reducible exact RR4.out _ _) | (with_reducible exact RR5.out _ _) | (with_reducible exact RR6.out _ _) | (with_reducible exact RR7.out _ _) | (with_reducible exact RR8.out _ _)))
  refine wpQuiet_nil ?_
  intro _ hw'
  obtain ⟨⟨dq, osq⟩, hw''⟩ := hw'
  subst hw''
  replace hb := hb.trans ((below_regrown w1 dq osq).mono hb.size)
  replace x0 := yx0 dq osq
  replace x1 := yx1 dq osq
  clear RR1 RR2 RR3 RR4 RR5 RR6 RR7 RR8 yx0 yx1
  obtain ⟨w1, hw2⟩ : ∃ w2, Sort.grow (redrawn w1 dq) osq = w2 := ⟨_, rfl⟩
  rw [hw2] at hb x0 x1 ⊢
  clear hw2
  go_wp2_with (first | (go_at_call 13; ((with_reducible refine (chain2 hb (C1.out _ (R.below hb))).mono ?_); clear hb; rintro e w1 ⟨rfl, hk, hb⟩; replace x0 := below_cell hk x0; replace x1 := below_cell hk x1; clear hk)) | (go_at_call 21; first | ((with_reducible refine (chain2 hb (C2.out _ (R.below hb))).mono ?_); clear hb; rintro e w1 ⟨rfl, hk, hb⟩; replace x0 := below_cell hk x0; replace x1 := below_cell hk x1; clear hk) | ((with_reducible refine (chain2 hb (C3.out _ (R.below hb))).mono ?_); clear hb; rintro e w1 ⟨rfl, hk, hb⟩; replace x0 := below_cell hk x0; replace x1 := below_cell hk x1; clear hk)) | (go_at_call 22; ((with_reducible refine (chain2 hb (C4.out _ (R.below hb))).mono ?_); clear hb; rintro e w1 ⟨rfl, hk, hb⟩; replace x0 := below_cell hk x0; replace x1 := below_cell hk x1; clear hk)) | (go_at_call 23; ((with_reducible refine (chain2 hb (C5.out _ (R.below hb))).mono ?_); clear hb; rintro e w1 ⟨rfl, hk, hb⟩; replace x0 := below_cell hk x0; replace x1 := below_cell hk x1; clear hk)) | (go_at_call 24; ((with_reducible refine (chain2 hb (C6.out _ (R.below hb))).mono ?_); clear hb; rintro e w1 ⟨rfl, hk, hb⟩; replace x0 := below_cell hk x0; replace x1 := below_cell hk x1; clear hk)) | (go_at_call 20; ((with_reducible refine (chain2 hb (C7.out _ (R.below hb))).mono ?_); clear hb; rintro e w1 ⟨rfl, hk, hb⟩; replace x0 := below_cell hk x0; replace x1 := below_cell hk x1; clear hk)) | (go_at_call 26; ((with_reducible refine (chain2 hb (C8.out _ (R.below hb))).mono ?_); clear hb; rintro e w1 ⟨rfl, hk, hb⟩; replace x0 := below_cell hk x0; replace x1 := below_cell hk x1; clear hk)))
  go_ret
  exact ⟨rfl, hb⟩
set_option maxRecDepth 100000 in
set_option maxHeartbeats 4000000 in
theorem lawNews_nn (x y : Int) (h : (itoaB x).size ≤ 60) (h' : (itoaB y).size ≤ 60) (hrx : rightB (itoaB x).data.toList = true) (hry : rightB (itoaB y).data.toList = true) (hx : dlen x ≤ 200) (hy : dlen y ≤ 200) (a b : Int) (a0 : -9223372036854775808 ≤ a) (a1 : a ≤ 9223372036854775807) (b0 : -9223372036854775808 ≤ b) (b1 : b ≤ 9223372036854775807) (hy0 : y ≠ 0) (hb0 : b ≠ 0) (w : World) (R : EnvR w) :
    Calls Tryz.prog 4 #[.string (itoaB x), .string (itoaB y), .agg #[.int .i64 a, .int .i64 b]] w fun e w' => e = .returned (.bool true) ∧ Below w.heap.size w w' := by
  have c1 : ∀ w, EnvR w → Calls Tryz.prog 13 #[] w fun e w' => e = .returned (.bool true) ∧ Below w.heap.size w w' := fun w R => known2_any w R
  have c2 : ∀ w, EnvR w → Calls Tryz.prog 21 #[.string (itoaB x)] w fun e w' => e = .returned (.bool true) ∧ Below w.heap.size w w' := fun w R => right_any _ w (by omega) true hrx
  have c3 : ∀ w, EnvR w → Calls Tryz.prog 21 #[.string (itoaB y)] w fun e w' => e = .returned (.bool true) ∧ Below w.heap.size w w' := fun w R => right_any _ w (by omega) true hry
  have c4 : ∀ w, EnvR w → Calls Tryz.prog 22 #[.string (itoaB x), .string (itoaB y)] w fun e w' => e = .returned (.tuple #[.string (ratB (Rat.divInt x y)), .int .i64 0]) ∧ Below w.heap.size w w' := fun w R => rnew_any x y w R (Nat.le_trans hx (by decide)) (Nat.le_trans hy (by decide)) hy0
  have c5 : ∀ w, EnvR w → Calls Tryz.prog 23 #[.int .i64 a, .int .i64 b] w fun e w' => e = .returned (.tuple #[.string (ratB (Rat.divInt a b)), .int .i64 0]) ∧ Below w.heap.size w w' := fun w R => rof_any a b a0 a1 b0 b1 hb0 w R
  have c6 : ∀ w, EnvR w → Calls Tryz.prog 24 #[.int .i64 a] w fun e w' => e = .returned (.string (itoaB a)) ∧ Below w.heap.size w w' := fun w R => rwhole_any a a0 a1 w R
  have c7 : ∀ w, EnvR w → Calls Tryz.prog 20 #[.int .i64 a] w fun e w' => e = .returned (.string (itoaB a)) ∧ Below w.heap.size w w' := fun w R => refOf_any a a0 a1 w R.env
  have c8 : ∀ w, EnvR w → Calls Tryz.prog 25 #[.int .i64 a, .int .i64 b] w fun e w' => e = .returned (.string (ratB (Rat.divInt a b))) ∧ Below w.heap.size w w' := fun w R => refROf_any a b a0 a1 b0 b1 hb0 w R
  have c9 : ∀ w, EnvR w → Calls Tryz.prog 26 #[.string (itoaB x), .string (itoaB y)] w fun e w' => e = .returned (.string (ratB (Rat.divInt x y))) ∧ Below w.heap.size w w' := fun w R => refFrac_any x y w R (Nat.le_trans hx (by decide)) (Nat.le_trans hy (by decide)) hy0
  have hsx : (itoaB x).size ≤ 60 := h
  have hsy : (itoaB y).size ≤ 60 := h'
  have z0 : ((itoaB y).toList == [48]) = false := by rw [str_zero]; exact decide_eq_false hy0
  obtain ⟨r1, er1⟩ : ∃ v, ratB (Rat.divInt x y) = v := ⟨_, rfl⟩
  try simp only [er1] at c1 c2 c3 c4 c5 c6 c7 c8 c9 hsx hsy z0 ⊢
  obtain ⟨r2, er2⟩ : ∃ v, ratB (Rat.divInt a b) = v := ⟨_, rfl⟩
  try simp only [er2] at c1 c2 c3 c4 c5 c6 c7 c8 c9 hsx hsy z0 ⊢
  obtain ⟨va, eva⟩ : ∃ v, itoaB a = v := ⟨_, rfl⟩
  try simp only [eva] at c1 c2 c3 c4 c5 c6 c7 c8 c9 hsx hsy z0 ⊢
  obtain ⟨vx, evx⟩ : ∃ v, itoaB x = v := ⟨_, rfl⟩
  try simp only [evx] at c1 c2 c3 c4 c5 c6 c7 c8 c9 hsx hsy z0 ⊢
  obtain ⟨vy, evy⟩ : ∃ v, itoaB y = v := ⟨_, rfl⟩
  try simp only [evy] at c1 c2 c3 c4 c5 c6 c7 c8 c9 hsx hsy z0 ⊢
  have C1 := Lib.hid c1
  have C2 := Lib.hid c2
  have C3 := Lib.hid c3
  have C4 := Lib.hid c4
  have C5 := Lib.hid c5
  have C6 := Lib.hid c6
  have C7 := Lib.hid c7
  have C8 := Lib.hid c8
  have C9 := Lib.hid c9
  clear c1 c2 c3 c4 c5 c6 c7 c8 c9 er1 er2 eva evx evy hrx hry hx hy hy0 h h'
  have hb0' : Below w.heap.size w (w.alloc (Obj.cells #[Value.int .i64 a, Value.int .i64 b] 34)) := (Below.refl _ _).alloc (Nat.le_refl _) _
  have hb := hb0'
  clear hb0'
  have x0 : (w.alloc (Obj.cells #[Value.int .i64 a, Value.int .i64 b] 34)).cell? ⟨w.heap.size, 0, none⟩ = some (Value.int .i64 a) := by simp [go_sem]
  have x1 : (w.alloc (Obj.cells #[Value.int .i64 a, Value.int .i64 b] 34)).cell? ⟨w.heap.size, 1, none⟩ = some (Value.int .i64 b) := by simp [go_sem]
  go_enter Tryz.func4, Tryz.ntmps4
  go_upto_region 5 with (first | (go_at_call 13; ((with_reducible refine (chain2 hb (C1.out _ (R.below hb))).mono ?_); clear hb; rintro e w1 ⟨rfl, hk, hb⟩; replace x0 := below_cell hk x0; replace x1 := below_cell hk x1; clear hk)) | (go_at_call 21; first | ((with_reducible refine (chain2 hb (C2.out _ (R.below hb))).mono ?_); clear hb; rintro e w1 ⟨rfl, hk, hb⟩; replace x0 := below_cell hk x0; replace x1 := below_cell hk x1; clear hk) | ((with_reducible refine (chain2 hb (C3.out _ (R.below hb))).mono ?_); clear hb; rintro e w1 ⟨rfl, hk, hb⟩; replace x0 := below_cell hk x0; replace x1 := below_cell hk x1; clear hk)) | (go_at_call 22; ((with_reducible refine (chain2 hb (C4.out _ (R.below hb))).mono ?_); clear hb; rintro e w1 ⟨rfl, hk, hb⟩; replace x0 := below_cell hk x0; replace x1 := below_cell hk x1; clear hk)) | (go_at_call 23; ((with_reducible refine (chain2 hb (C5.out _ (R.below hb))).mono ?_); clear hb; rintro e w1 ⟨rfl, hk, hb⟩; replace x0 := below_cell hk x0; replace x1 := below_cell hk x1; clear hk)) | (go_at_call 24; ((with_reducible refine (chain2 hb (C6.out _ (R.below hb))).mono ?_); clear hb; rintro e w1 ⟨rfl, hk, hb⟩; replace x0 := below_cell hk x0; replace x1 := below_cell hk x1; clear hk)) | (go_at_call 20; ((with_reducible refine (chain2 hb (C7.out _ (R.below hb))).mono ?_); clear hb; rintro e w1 ⟨rfl, hk, hb⟩; replace x0 := below_cell hk x0; replace x1 := below_cell hk x1; clear hk)) | (go_at_call 25; ((with_reducible refine (chain2 hb (C8.out _ (R.below hb))).mono ?_); clear hb; rintro e w1 ⟨rfl, hk, hb⟩; replace x0 := below_cell hk x0; replace x1 := below_cell hk x1; clear hk)) | (go_at_call 26; ((with_reducible refine (chain2 hb (C9.out _ (R.below hb))).mono ?_); clear hb; rintro e w1 ⟨rfl, hk, hb⟩; replace x0 := below_cell hk x0; replace x1 := below_cell hk x1; clear hk)))
  have yx0 := cell_regrown x0
  have yx1 := cell_regrown x1
  have RR1 := Lib.hid (fun d os => Calls.regrown_of (C1.out (Sort.grow (redrawn w1 d) os) (R.below (hb.trans ((below_regrown w1 d os).mono hb.size)))))
  have RR2 := Lib.hid (fun d os => Calls.regrown_of (C2.out (Sort.grow (redrawn w1 d) os) (R.below (hb.trans ((below_regrown w1 d os).mono hb.size)))))
  have RR3 := Lib.hid (fun d os => Calls.regrown_of (C3.out (Sort.grow (redrawn w1 d) os) (R.below (hb.trans ((below_regrown w1 d os).mono hb.size)))))
  have RR4 := Lib.hid (fun d os => Calls.regrown_of (C4.out (Sort.grow (redrawn w1 d) os) (R.below (hb.trans ((below_regrown w1 d os).mono hb.size)))))
  have RR5 := Lib.hid (fun d os => Calls.regrown_of (C5.out (Sort.grow (redrawn w1 d) os) (R.below (hb.trans ((below_regrown w1 d os).mono hb.size)))))
  have RR6 := Lib.hid (fun d os => Calls.regrown_of (C6.out (Sort.grow (redrawn w1 d) os) (R.below (hb.trans ((below_regrown w1 d os).mono hb.size)))))
  have RR7 := Lib.hid (fun d os => Calls.regrown_of (C7.out (Sort.grow (redrawn w1 d) os) (R.below (hb.trans ((below_regrown w1 d os).mono hb.size)))))
  have RR8 := Lib.hid (fun d os => Calls.regrown_of (C8.out (Sort.grow (redrawn w1 d) os) (R.below (hb.trans ((below_regrown w1 d os).mono hb.size)))))
  have RR9 := Lib.hid (fun d os => Calls.regrown_of (C9.out (Sort.grow (redrawn w1 d) os) (R.below (hb.trans ((below_regrown w1 d os).mono hb.size)))))
  refine wp_region_quiet_below (by first | assumption | kernel_rfl) (by kernel_rfl) ?_
  repeat (quiet_step (first | (with_reducible exact RR1.out _ _) | (with_reducible exact RR2.out _ _) | (with_reducible exact RR3.out _ _) | (with_reducible exact RR4.out _ _) | (with_reducible exact RR5.out _ _) | (with_reducible exact RR6.out _ _) | (with_reducible exact RR7.out _ _) | (with_reducible exact RR8.out _ _) | (with_reducible exact RR9.out _ _)))
  refine wpQuiet_nil ?_
  intro _ hw'
  obtain ⟨⟨dq, osq⟩, hw''⟩ := hw'
  subst hw''
  replace hb := hb.trans ((below_regrown w1 dq osq).mono hb.size)
  replace x0 := yx0 dq osq
  replace x1 := yx1 dq osq
  clear RR1 RR2 RR3 RR4 RR5 RR6 RR7 RR8 RR9 yx0 yx1
  obtain ⟨w1, hw2⟩ : ∃ w2, Sort.grow (redrawn w1 dq) osq = w2 := ⟨_, rfl⟩
  rw [hw2] at hb x0 x1 ⊢
  clear hw2
  go_wp2_with (first | (go_at_call 13; ((with_reducible refine (chain2 hb (C1.out _ (R.below hb))).mono ?_); clear hb; rintro e w1 ⟨rfl, hk, hb⟩; replace x0 := below_cell hk x0; replace x1 := below_cell hk x1; clear hk)) | (go_at_call 21; first | ((with_reducible refine (chain2 hb (C2.out _ (R.below hb))).mono ?_); clear hb; rintro e w1 ⟨rfl, hk, hb⟩; replace x0 := below_cell hk x0; replace x1 := below_cell hk x1; clear hk) | ((with_reducible refine (chain2 hb (C3.out _ (R.below hb))).mono ?_); clear hb; rintro e w1 ⟨rfl, hk, hb⟩; replace x0 := below_cell hk x0; replace x1 := below_cell hk x1; clear hk)) | (go_at_call 22; ((with_reducible refine (chain2 hb (C4.out _ (R.below hb))).mono ?_); clear hb; rintro e w1 ⟨rfl, hk, hb⟩; replace x0 := below_cell hk x0; replace x1 := below_cell hk x1; clear hk)) | (go_at_call 23; ((with_reducible refine (chain2 hb (C5.out _ (R.below hb))).mono ?_); clear hb; rintro e w1 ⟨rfl, hk, hb⟩; replace x0 := below_cell hk x0; replace x1 := below_cell hk x1; clear hk)) | (go_at_call 24; ((with_reducible refine (chain2 hb (C6.out _ (R.below hb))).mono ?_); clear hb; rintro e w1 ⟨rfl, hk, hb⟩; replace x0 := below_cell hk x0; replace x1 := below_cell hk x1; clear hk)) | (go_at_call 20; ((with_reducible refine (chain2 hb (C7.out _ (R.below hb))).mono ?_); clear hb; rintro e w1 ⟨rfl, hk, hb⟩; replace x0 := below_cell hk x0; replace x1 := below_cell hk x1; clear hk)) | (go_at_call 25; ((with_reducible refine (chain2 hb (C8.out _ (R.below hb))).mono ?_); clear hb; rintro e w1 ⟨rfl, hk, hb⟩; replace x0 := below_cell hk x0; replace x1 := below_cell hk x1; clear hk)) | (go_at_call 26; ((with_reducible refine (chain2 hb (C9.out _ (R.below hb))).mono ?_); clear hb; rintro e w1 ⟨rfl, hk, hb⟩; replace x0 := below_cell hk x0; replace x1 := below_cell hk x1; clear hk)))
  go_ret
  exact ⟨rfl, hb⟩
theorem lawNews (s t : ByteArray) (a b : Int) (a0 : -9223372036854775808 ≤ a) (a1 : a ≤ 9223372036854775807) (b0 : -9223372036854775808 ≤ b) (b1 : b ≤ 9223372036854775807) (w : World) (R : EnvR w) (hss : s.size ≤ maxLen) (hts : t.size ≤ maxLen) :
    Calls Tryz.prog 4 #[.string s, .string t, .agg #[.int .i64 a, .int .i64 b]] w fun e w' => e = .returned (.bool true) ∧ Below w.heap.size w w' := by
  unfold maxLen at hss hts
  by_cases h1 : 60 < s.size
  · exact lawNews_o1 s t (by omega) (by omega) a b a0 a1 b0 b1 h1 w R
  · by_cases h2 : 60 < t.size
    · exact lawNews_o2 s t (by omega) (by omega) a b a0 a1 b0 b1 (by omega) h2 w R
    · cases r1 : rightB s.data.toList with
      | false => exact lawNews_o3 s t (by omega) (by omega) a b a0 a1 b0 b1 (by omega) (by omega) r1 w R
      | true =>
        cases r2 : rightB t.data.toList with
        | false => exact lawNews_o4 s t (by omega) (by omega) a b a0 a1 b0 b1 (by omega) (by omega) r1 r2 w R
        | true =>
          obtain ⟨x, ex, hx⟩ := rightB_iff.1 r1
          obtain ⟨y, ey, hy⟩ := rightB_iff.1 r2
          obtain rfl : s = itoaB x := dat_inj ex
          obtain rfl : t = itoaB y := dat_inj ey
          by_cases hy0 : y = 0
          · by_cases hb0 : b = 0
            · subst hb0; exact lawNews_zz x y (by omega) (by omega) r1 r2 hx hy a a0 a1 hy0 w R
            · exact lawNews_zn x y (by omega) (by omega) r1 r2 hx hy a b a0 a1 b0 b1 hy0 hb0 w R
          · by_cases hb0 : b = 0
            · subst hb0; exact lawNews_nz x y (by omega) (by omega) r1 r2 hx hy a a0 a1 hy0 w R
            · exact lawNews_nn x y (by omega) (by omega) r1 r2 hx hy a b a0 a1 b0 b1 hy0 hb0 w R
end Go.Proofs.YtgllflfifbacnaaGreatDoor.Kl
