/- Contracts: the order of rational numbers. -/
import Derived.Test.YtgllflfifbacnaaGreatDoorKlRatE
import Derived.Lib.QuietBelow
namespace Go.Proofs.YtgllflfifbacnaaGreatDoor.Kl
open Go Go.RowKit

theorem chain2A {P : Program} {K : FuncId} {args : Array Value} {w wa w0 : World} {v : Value} (hb : Below w0.heap.size w0 w)
    (h : Calls P K args wa fun e w' => e = .returned v ∧ Below w.heap.size w w') : Calls P K args wa fun e w' => e = .returned v ∧ Below w.heap.size w w' ∧ Below w0.heap.size w0 w' :=
  h.mono fun _ _ ⟨he, hb2⟩ => ⟨he, hb2, hb.trans (hb2.mono hb.size)⟩
set_option maxRecDepth 100000 in
set_option maxHeartbeats 200000 in
theorem isNaN_u64 (x : Int) (w : World) (_R : EnvR w) :
    Calls Tryz.prog 194 #[.int .u64 x] w fun e w' => e = .returned (.bool false) ∧ Below w.heap.size w w' := by
  have hb := Below.refl w.heap.size w
  go_enter Tryz.func194, Tryz.ntmps194
  go_wp2
  go_ret
  exact ⟨rfl, hb⟩
set_option maxRecDepth 100000 in
set_option maxHeartbeats 200000 in
theorem cmpU_l (x y : Int) (h : x < y) (w : World) (R : EnvR w) :
    Calls Tryz.prog 154 #[.int .u64 x, .int .u64 y] w fun e w' => e = .returned (.int .i64 (-1)) ∧ Below w.heap.size w w' := by
  have c1 : ∀ w, EnvR w → Calls Tryz.prog 194 #[.int .u64 x] w fun e w' => e = .returned (.bool false) ∧ Below w.heap.size w w' := fun w R => isNaN_u64 x w R
  have c2 : ∀ w, EnvR w → Calls Tryz.prog 194 #[.int .u64 y] w fun e w' => e = .returned (.bool false) ∧ Below w.heap.size w w' := fun w R => isNaN_u64 y w R
  have C1 := Lib.hid c1
  have C2 := Lib.hid c2
  clear c1 c2
  have hb := Below.refl w.heap.size w
  go_enter Tryz.func154, Tryz.ntmps154
  go_wp2_with (go_at_call 194; first | ((with_reducible refine (chain hb (C1.out _ (R.below hb))).mono ?_); clear hb; rintro e w1 ⟨rfl, hb⟩) | ((with_reducible refine (chain hb (C2.out _ (R.below hb))).mono ?_); clear hb; rintro e w1 ⟨rfl, hb⟩))
  go_ret
  exact ⟨rfl, hb⟩
set_option maxRecDepth 100000 in
set_option maxHeartbeats 200000 in
theorem cmpU_g (x y : Int) (h : y < x) (w : World) (R : EnvR w) :
    Calls Tryz.prog 154 #[.int .u64 x, .int .u64 y] w fun e w' => e = .returned (.int .i64 1) ∧ Below w.heap.size w w' := by
  have c1 : ∀ w, EnvR w → Calls Tryz.prog 194 #[.int .u64 x] w fun e w' => e = .returned (.bool false) ∧ Below w.heap.size w w' := fun w R => isNaN_u64 x w R
  have c2 : ∀ w, EnvR w → Calls Tryz.prog 194 #[.int .u64 y] w fun e w' => e = .returned (.bool false) ∧ Below w.heap.size w w' := fun w R => isNaN_u64 y w R
  have C1 := Lib.hid c1
  have C2 := Lib.hid c2
  clear c1 c2
  have hb := Below.refl w.heap.size w
  go_enter Tryz.func154, Tryz.ntmps154
  go_wp2_with (go_at_call 194; first | ((with_reducible refine (chain hb (C1.out _ (R.below hb))).mono ?_); clear hb; rintro e w1 ⟨rfl, hb⟩) | ((with_reducible refine (chain hb (C2.out _ (R.below hb))).mono ?_); clear hb; rintro e w1 ⟨rfl, hb⟩))
  go_ret
  exact ⟨rfl, hb⟩
set_option maxRecDepth 100000 in
set_option maxHeartbeats 200000 in
theorem cmpU_e (x : Int) (w : World) (R : EnvR w) :
    Calls Tryz.prog 154 #[.int .u64 x, .int .u64 x] w fun e w' => e = .returned (.int .i64 0) ∧ Below w.heap.size w w' := by
  have c1 : ∀ w, EnvR w → Calls Tryz.prog 194 #[.int .u64 x] w fun e w' => e = .returned (.bool false) ∧ Below w.heap.size w w' := fun w R => isNaN_u64 x w R
  have C1 := Lib.hid c1
  clear c1
  have hb := Below.refl w.heap.size w
  go_enter Tryz.func154, Tryz.ntmps154
  go_wp2_with (go_at_call 194; ((with_reducible refine (chain hb (C1.out _ (R.below hb))).mono ?_); clear hb; rintro e w1 ⟨rfl, hb⟩))
  go_ret
  exact ⟨rfl, hb⟩
theorem cmpU_any (x y : Int) (w : World) (R : EnvR w) : Calls Tryz.prog 154 #[.int .u64 x, .int .u64 y] w fun e w' => e = .returned (.int .i64 (Lib.compareInt x y)) ∧ Below w.heap.size w w' := by
  unfold Lib.compareInt
  by_cases h1 : x < y
  · rw [if_pos h1]; exact cmpU_l x y h1 w R
  · rw [if_neg h1]
    by_cases h2 : y < x
    · rw [if_pos h2]; exact cmpU_g x y h2 w R
    · rw [if_neg h2]
      have : x = y := by omega
      subst this
      exact cmpU_e x w R
theorem cmp_lex (A B : Nat) : orI (Lib.compareInt ((A / 18446744073709551616 : Nat) : Int) ((B / 18446744073709551616 : Nat) : Int)) (Lib.compareInt ((A % 18446744073709551616 : Nat) : Int) ((B % 18446744073709551616 : Nat) : Int)) = Lib.compareInt (A : Int) (B : Int) := by
  have h1 := Nat.div_add_mod A 18446744073709551616
  have h2 := Nat.div_add_mod B 18446744073709551616
  have h3 := Nat.mod_lt A (show 0 < 18446744073709551616 by decide)
  have h4 := Nat.mod_lt B (show 0 < 18446744073709551616 by decide)
  unfold orI Lib.compareInt
  repeat' split
  all_goals omega
set_option maxRecDepth 100000 in
set_option maxHeartbeats 2000000 in
theorem cmpInts_m (a b c d A B C D h1 l1 h2 l2 r1 r2 r : Int) (hr : orI r1 r2 = r) (hrb : -1 ≤ r ∧ r ≤ 1) (hs : a < 0) (k1' : ∀ w, EnvR w → Calls Tryz.prog 153 #[.int .i64 a] w fun e w' => e = .returned (.int .u64 A) ∧ Below w.heap.size w w') (k2' : ∀ w, EnvR w → Calls Tryz.prog 153 #[.int .i64 d] w fun e w' => e = .returned (.int .u64 D) ∧ Below w.heap.size w w') (k3' : ∀ w, EnvR w → Calls Tryz.prog 138 #[.int .u64 A, .int .u64 D] w fun e w' => e = .returned (.tuple #[.int .u64 h1, .int .u64 l1]) ∧ Below w.heap.size w w') (k4' : ∀ w, EnvR w → Calls Tryz.prog 153 #[.int .i64 c] w fun e w' => e = .returned (.int .u64 C) ∧ Below w.heap.size w w') (k5' : ∀ w, EnvR w → Calls Tryz.prog 153 #[.int .i64 b] w fun e w' => e = .returned (.int .u64 B) ∧ Below w.heap.size w w') (k6' : ∀ w, EnvR w → Calls Tryz.prog 138 #[.int .u64 C, .int .u64 B] w fun e w' => e = .returned (.tuple #[.int .u64 h2, .int .u64 l2]) ∧ Below w.heap.size w w') (k7' : ∀ w, EnvR w → Calls Tryz.prog 154 #[.int .u64 h1, .int .u64 h2] w fun e w' => e = .returned (.int .i64 r1) ∧ Below w.heap.size w w') (k8' : ∀ w, EnvR w → Calls Tryz.prog 154 #[.int .u64 l1, .int .u64 l2] w fun e w' => e = .returned (.int .i64 r2) ∧ Below w.heap.size w w') (w : World) (R : EnvR w) :
    Calls Tryz.prog 102 #[.agg #[.int .i64 a, .int .i64 b], .agg #[.int .i64 c, .int .i64 d]] w fun e w' => e = .returned (.tuple #[.int .i64 (-r), .bool true]) ∧ Below w.heap.size w w' := by
  have c1 : ∀ w, EnvR w → Calls Tryz.prog 153 #[.int .i64 a] w fun e w' => e = .returned (.int .u64 A) ∧ Below w.heap.size w w' := fun w R => k1' w R
  have c2 : ∀ w, EnvR w → Calls Tryz.prog 153 #[.int .i64 d] w fun e w' => e = .returned (.int .u64 D) ∧ Below w.heap.size w w' := fun w R => k2' w R
  have c3 : ∀ w, EnvR w → Calls Tryz.prog 138 #[.int .u64 A, .int .u64 D] w fun e w' => e = .returned (.tuple #[.int .u64 h1, .int .u64 l1]) ∧ Below w.heap.size w w' := fun w R => k3' w R
  have c4 : ∀ w, EnvR w → Calls Tryz.prog 153 #[.int .i64 c] w fun e w' => e = .returned (.int .u64 C) ∧ Below w.heap.size w w' := fun w R => k4' w R
  have c5 : ∀ w, EnvR w → Calls Tryz.prog 153 #[.int .i64 b] w fun e w' => e = .returned (.int .u64 B) ∧ Below w.heap.size w w' := fun w R => k5' w R
  have c6 : ∀ w, EnvR w → Calls Tryz.prog 138 #[.int .u64 C, .int .u64 B] w fun e w' => e = .returned (.tuple #[.int .u64 h2, .int .u64 l2]) ∧ Below w.heap.size w w' := fun w R => k6' w R
  have c7 : ∀ w, EnvR w → Calls Tryz.prog 154 #[.int .u64 h1, .int .u64 h2] w fun e w' => e = .returned (.int .i64 r1) ∧ Below w.heap.size w w' := fun w R => k7' w R
  have c8 : ∀ w, EnvR w → Calls Tryz.prog 154 #[.int .u64 l1, .int .u64 l2] w fun e w' => e = .returned (.int .i64 r2) ∧ Below w.heap.size w w' := fun w R => k8' w R
  have C1 := Lib.hid c1
  have C2 := Lib.hid c2
  have C3 := Lib.hid c3
  have C4 := Lib.hid c4
  have C5 := Lib.hid c5
  have C6 := Lib.hid c6
  have C7 := Lib.hid c7
  have C8 := Lib.hid c8
  clear c1 c2 c3 c4 c5 c6 c7 c8 k1' k2' k3' k4' k5' k6' k7' k8'
  have OR := Lib.hid (or_built r1 r2 r hr)
  clear hr
  have hb0' : Below w.heap.size w (w.alloc (Obj.cells #[Value.int .i64 a, Value.int .i64 b] 151)) := (Below.refl _ _).alloc (Nat.le_refl _) _
  have hb1' : Below w.heap.size w ((w.alloc (Obj.cells #[Value.int .i64 a, Value.int .i64 b] 151)).alloc (Obj.cells #[Value.int .i64 c, Value.int .i64 d] 151)) := hb0'.alloc hb0'.size _
  have hb := hb1'
  clear hb0' hb1'
  have x0 : ((w.alloc (Obj.cells #[Value.int .i64 a, Value.int .i64 b] 151)).alloc (Obj.cells #[Value.int .i64 c, Value.int .i64 d] 151)).cell? ⟨w.heap.size, 0, none⟩ = some (Value.int .i64 a) := by simp [go_sem]
  have x1 : ((w.alloc (Obj.cells #[Value.int .i64 a, Value.int .i64 b] 151)).alloc (Obj.cells #[Value.int .i64 c, Value.int .i64 d] 151)).cell? ⟨w.heap.size, 1, none⟩ = some (Value.int .i64 b) := by simp [go_sem]
  have x2 : ((w.alloc (Obj.cells #[Value.int .i64 a, Value.int .i64 b] 151)).alloc (Obj.cells #[Value.int .i64 c, Value.int .i64 d] 151)).cell? ⟨w.heap.size + 1, 0, none⟩ = some (Value.int .i64 c) := by simp [go_sem]
  have x3 : ((w.alloc (Obj.cells #[Value.int .i64 a, Value.int .i64 b] 151)).alloc (Obj.cells #[Value.int .i64 c, Value.int .i64 d] 151)).cell? ⟨w.heap.size + 1, 1, none⟩ = some (Value.int .i64 d) := by simp [go_sem]
  go_enter Tryz.func102, Tryz.ntmps102
  go_upto_region 1 with fail
  obtain ⟨w1, hw1⟩ : ∃ w1, (w.alloc (Obj.cells #[Value.int .i64 a, Value.int .i64 b] 151)).alloc (Obj.cells #[Value.int .i64 c, Value.int .i64 d] 151) = w1 := ⟨_, rfl⟩
  rw [hw1] at hb x0 x1 x2 x3 ⊢
  clear hw1
  have yx0 := cell_regrown x0
  have yx1 := cell_regrown x1
  have yx2 := cell_regrown x2
  have yx3 := cell_regrown x3
  have RR1 := Lib.hid (fun d os => Calls.regrown_of (C1.out (Sort.grow (redrawn w1 d) os) (R.below (hb.trans ((below_regrown w1 d os).mono hb.size)))))
  have RR2 := Lib.hid (fun d os => Calls.regrown_of (C2.out (Sort.grow (redrawn w1 d) os) (R.below (hb.trans ((below_regrown w1 d os).mono hb.size)))))
  have RR3 := Lib.hid (fun d os => Calls.regrown_of (C3.out (Sort.grow (redrawn w1 d) os) (R.below (hb.trans ((below_regrown w1 d os).mono hb.size)))))
  have RR4 := Lib.hid (fun d os => Calls.regrown_of (C4.out (Sort.grow (redrawn w1 d) os) (R.below (hb.trans ((below_regrown w1 d os).mono hb.size)))))
  have RR5 := Lib.hid (fun d os => Calls.regrown_of (C5.out (Sort.grow (redrawn w1 d) os) (R.below (hb.trans ((below_regrown w1 d os).mono hb.size)))))
  have RR6 := Lib.hid (fun d os => Calls.regrown_of (C6.out (Sort.grow (redrawn w1 d) os) (R.below (hb.trans ((below_regrown w1 d os).mono hb.size)))))
  have RR7 := Lib.hid (fun d os => Calls.regrown_of (C7.out (Sort.grow (redrawn w1 d) os) (R.below (hb.trans ((below_regrown w1 d os).mono hb.size)))))
  have RR8 := Lib.hid (fun d os => Calls.regrown_of (C8.out (Sort.grow (redrawn w1 d) os) (R.below (hb.trans ((below_regrown w1 d os).mono hb.size)))))
  refine wp_region_quiet_below (by first | assumption | kernel_rfl) (by kernel_rfl) ?_
  repeat (quiet_step (first | (with_reducible exact RR1.out _ _) | (with_reducible exact RR2.out _ _) | (with_reducible exact RR3.out _ _) | (with_reducible exact RR4.out _ _) | (with_reducible exact RR5.out _ _) | (with_reducible exact RR6.out _ _) | (with_reducible exact RR7.out _ _) | (with_reducible exact RR8.out _ _)))
  refine wpQuiet_nil ?_
  intro _ hw'
  obtain ⟨⟨dq, osq⟩, hw''⟩ := hw'
  subst hw''
  replace hb := hb.trans ((below_regrown w1 dq osq).mono hb.size)
  replace x0 := yx0 dq osq
  replace x1 := yx1 dq osq
  replace x2 := yx2 dq osq
  replace x3 := yx3 dq osq
  clear RR1 RR2 RR3 RR4 RR5 RR6 RR7 RR8 yx0 yx1 yx2 yx3
  obtain ⟨w1, hw2⟩ : ∃ w2, Sort.grow (redrawn w1 dq) osq = w2 := ⟨_, rfl⟩
  rw [hw2] at hb x0 x1 x2 x3 ⊢
  clear hw2
  go_upto_region 2 with (first | (go_at_call 153; first | ((with_reducible refine (chain2 hb (C1.out _ (R.below hb))).mono ?_); clear hb; rintro e w1 ⟨rfl, hk, hb⟩; replace x0 := below_cell hk x0; replace x1 := below_cell hk x1; replace x2 := below_cell hk x2; replace x3 := below_cell hk x3; clear hk) | ((with_reducible refine (chain2 hb (C2.out _ (R.below hb))).mono ?_); clear hb; rintro e w1 ⟨rfl, hk, hb⟩; replace x0 := below_cell hk x0; replace x1 := below_cell hk x1; replace x2 := below_cell hk x2; replace x3 := below_cell hk x3; clear hk) | ((with_reducible refine (chain2 hb (C4.out _ (R.below hb))).mono ?_); clear hb; rintro e w1 ⟨rfl, hk, hb⟩; replace x0 := below_cell hk x0; replace x1 := below_cell hk x1; replace x2 := below_cell hk x2; replace x3 := below_cell hk x3; clear hk) | ((with_reducible refine (chain2 hb (C5.out _ (R.below hb))).mono ?_); clear hb; rintro e w1 ⟨rfl, hk, hb⟩; replace x0 := below_cell hk x0; replace x1 := below_cell hk x1; replace x2 := below_cell hk x2; replace x3 := below_cell hk x3; clear hk)) | (go_at_call 138; first | ((with_reducible refine (chain2 hb (C3.out _ (R.below hb))).mono ?_); clear hb; rintro e w1 ⟨rfl, hk, hb⟩; replace x0 := below_cell hk x0; replace x1 := below_cell hk x1; replace x2 := below_cell hk x2; replace x3 := below_cell hk x3; clear hk) | ((with_reducible refine (chain2 hb (C6.out _ (R.below hb))).mono ?_); clear hb; rintro e w1 ⟨rfl, hk, hb⟩; replace x0 := below_cell hk x0; replace x1 := below_cell hk x1; replace x2 := below_cell hk x2; replace x3 := below_cell hk x3; clear hk)) | (go_at_call 154; first | ((with_reducible refine (chain2 hb (C7.out _ (R.below hb))).mono ?_); clear hb; rintro e w1 ⟨rfl, hk, hb⟩; replace x0 := below_cell hk x0; replace x1 := below_cell hk x1; replace x2 := below_cell hk x2; replace x3 := below_cell hk x3; clear hk) | ((with_reducible refine (chain2 hb (C8.out _ (R.below hb))).mono ?_); clear hb; rintro e w1 ⟨rfl, hk, hb⟩; replace x0 := below_cell hk x0; replace x1 := below_cell hk x1; replace x2 := below_cell hk x2; replace x3 := below_cell hk x3; clear hk)) | (go_at_call 120; refine (chain2A hb (OR.out _)).mono ?_; clear hb; rintro e w1 ⟨rfl, hk, hb⟩; replace x0 := below_cell hk x0; replace x1 := below_cell hk x1; replace x2 := below_cell hk x2; replace x3 := below_cell hk x3; clear hk))
  have yx0 := cell_regrown x0
  have yx1 := cell_regrown x1
  have yx2 := cell_regrown x2
  have yx3 := cell_regrown x3
  have RR1 := Lib.hid (fun d os => Calls.regrown_of (C1.out (Sort.grow (redrawn w1 d) os) (R.below (hb.trans ((below_regrown w1 d os).mono hb.size)))))
  have RR2 := Lib.hid (fun d os => Calls.regrown_of (C2.out (Sort.grow (redrawn w1 d) os) (R.below (hb.trans ((below_regrown w1 d os).mono hb.size)))))
  have RR3 := Lib.hid (fun d os => Calls.regrown_of (C3.out (Sort.grow (redrawn w1 d) os) (R.below (hb.trans ((below_regrown w1 d os).mono hb.size)))))
  have RR4 := Lib.hid (fun d os => Calls.regrown_of (C4.out (Sort.grow (redrawn w1 d) os) (R.below (hb.trans ((below_regrown w1 d os).mono hb.size)))))
  have RR5 := Lib.hid (fun d os => Calls.regrown_of (C5.out (Sort.grow (redrawn w1 d) os) (R.below (hb.trans ((below_regrown w1 d os).mono hb.size)))))
  have RR6 := Lib.hid (fun d os => Calls.regrown_of (C6.out (Sort.grow (redrawn w1 d) os) (R.below (hb.trans ((below_regrown w1 d os).mono hb.size)))))
  have RR7 := Lib.hid (fun d os => Calls.regrown_of (C7.out (Sort.grow (redrawn w1 d) os) (R.below (hb.trans ((below_regrown w1 d os).mono hb.size)))))
  have RR8 := Lib.hid (fun d os => Calls.regrown_of (C8.out (Sort.grow (redrawn w1 d) os) (R.below (hb.trans ((below_regrown w1 d os).mono hb.size)))))
  refine wp_region_quiet_below (by first | assumption | kernel_rfl) (by kernel_rfl) ?_
  repeat (quiet_step (first | (with_reducible exact RR1.out _ _) | (with_reducible exact RR2.out _ _) | (with_reducible exact RR3.out _ _) | (with_reducible exact RR4.out _ _) | (with_reducible exact RR5.out _ _) | (with_reducible exact RR6.out _ _) | (with_reducible exact RR7.out _ _) | (with_reducible exact RR8.out _ _)))
  refine wpQuiet_nil ?_
  intro _ hw'
  obtain ⟨⟨dq, osq⟩, hw''⟩ := hw'
  subst hw''
  replace hb := hb.trans ((below_regrown w1 dq osq).mono hb.size)
  replace x0 := yx0 dq osq
  replace x1 := yx1 dq osq
  replace x2 := yx2 dq osq
  replace x3 := yx3 dq osq
  clear RR1 RR2 RR3 RR4 RR5 RR6 RR7 RR8 yx0 yx1 yx2 yx3
  obtain ⟨w1, hw2⟩ : ∃ w2, Sort.grow (redrawn w1 dq) osq = w2 := ⟨_, rfl⟩
  rw [hw2] at hb x0 x1 x2 x3 ⊢
  clear hw2
  go_wp2_with (first | (go_at_call 153; first | ((with_reducible refine (chain2 hb (C1.out _ (R.below hb))).mono ?_); clear hb; rintro e w1 ⟨rfl, hk, hb⟩; replace x0 := below_cell hk x0; replace x1 := below_cell hk x1; replace x2 := below_cell hk x2; replace x3 := below_cell hk x3; clear hk) | ((with_reducible refine (chain2 hb (C2.out _ (R.below hb))).mono ?_); clear hb; rintro e w1 ⟨rfl, hk, hb⟩; replace x0 := below_cell hk x0; replace x1 := below_cell hk x1; replace x2 := below_cell hk x2; replace x3 := below_cell hk x3; clear hk) | ((with_reducible refine (chain2 hb (C4.out _ (R.below hb))).mono ?_); clear hb; rintro e w1 ⟨rfl, hk, hb⟩; replace x0 := below_cell hk x0; replace x1 := below_cell hk x1; replace x2 := below_cell hk x2; replace x3 := below_cell hk x3; clear hk) | ((with_reducible refine (chain2 hb (C5.out _ (R.below hb))).mono ?_); clear hb; rintro e w1 ⟨rfl, hk, hb⟩; replace x0 := below_cell hk x0; replace x1 := below_cell hk x1; replace x2 := below_cell hk x2; replace x3 := below_cell hk x3; clear hk)) | (go_at_call 138; first | ((with_reducible refine (chain2 hb (C3.out _ (R.below hb))).mono ?_); clear hb; rintro e w1 ⟨rfl, hk, hb⟩; replace x0 := below_cell hk x0; replace x1 := below_cell hk x1; replace x2 := below_cell hk x2; replace x3 := below_cell hk x3; clear hk) | ((with_reducible refine (chain2 hb (C6.out _ (R.below hb))).mono ?_); clear hb; rintro e w1 ⟨rfl, hk, hb⟩; replace x0 := below_cell hk x0; replace x1 := below_cell hk x1; replace x2 := below_cell hk x2; replace x3 := below_cell hk x3; clear hk)) | (go_at_call 154; first | ((with_reducible refine (chain2 hb (C7.out _ (R.below hb))).mono ?_); clear hb; rintro e w1 ⟨rfl, hk, hb⟩; replace x0 := below_cell hk x0; replace x1 := below_cell hk x1; replace x2 := below_cell hk x2; replace x3 := below_cell hk x3; clear hk) | ((with_reducible refine (chain2 hb (C8.out _ (R.below hb))).mono ?_); clear hb; rintro e w1 ⟨rfl, hk, hb⟩; replace x0 := below_cell hk x0; replace x1 := below_cell hk x1; replace x2 := below_cell hk x2; replace x3 := below_cell hk x3; clear hk)) | (go_at_call 120; refine (chain2A hb (OR.out _)).mono ?_; clear hb; rintro e w1 ⟨rfl, hk, hb⟩; replace x0 := below_cell hk x0; replace x1 := below_cell hk x1; replace x2 := below_cell hk x2; replace x3 := below_cell hk x3; clear hk))
  go_ret2
  exact ⟨rfl, hb⟩
set_option maxRecDepth 100000 in
set_option maxHeartbeats 2000000 in
theorem cmpInts_p (a b c d A B C D h1 l1 h2 l2 r1 r2 r : Int) (hr : orI r1 r2 = r) (_hrb : -1 ≤ r ∧ r ≤ 1) (hs : 0 ≤ a) (k1' : ∀ w, EnvR w → Calls Tryz.prog 153 #[.int .i64 a] w fun e w' => e = .returned (.int .u64 A) ∧ Below w.heap.size w w') (k2' : ∀ w, EnvR w → Calls Tryz.prog 153 #[.int .i64 d] w fun e w' => e = .returned (.int .u64 D) ∧ Below w.heap.size w w') (k3' : ∀ w, EnvR w → Calls Tryz.prog 138 #[.int .u64 A, .int .u64 D] w fun e w' => e = .returned (.tuple #[.int .u64 h1, .int .u64 l1]) ∧ Below w.heap.size w w') (k4' : ∀ w, EnvR w → Calls Tryz.prog 153 #[.int .i64 c] w fun e w' => e = .returned (.int .u64 C) ∧ Below w.heap.size w w') (k5' : ∀ w, EnvR w → Calls Tryz.prog 153 #[.int .i64 b] w fun e w' => e = .returned (.int .u64 B) ∧ Below w.heap.size w w') (k6' : ∀ w, EnvR w → Calls Tryz.prog 138 #[.int .u64 C, .int .u64 B] w fun e w' => e = .returned (.tuple #[.int .u64 h2, .int .u64 l2]) ∧ Below w.heap.size w w') (k7' : ∀ w, EnvR w → Calls Tryz.prog 154 #[.int .u64 h1, .int .u64 h2] w fun e w' => e = .returned (.int .i64 r1) ∧ Below w.heap.size w w') (k8' : ∀ w, EnvR w → Calls Tryz.prog 154 #[.int .u64 l1, .int .u64 l2] w fun e w' => e = .returned (.int .i64 r2) ∧ Below w.heap.size w w') (w : World) (R : EnvR w) :
    Calls Tryz.prog 102 #[.agg #[.int .i64 a, .int .i64 b], .agg #[.int .i64 c, .int .i64 d]] w fun e w' => e = .returned (.tuple #[.int .i64 r, .bool true]) ∧ Below w.heap.size w w' := by
  have c1 : ∀ w, EnvR w → Calls Tryz.prog 153 #[.int .i64 a] w fun e w' => e = .returned (.int .u64 A) ∧ Below w.heap.size w w' := fun w R => k1' w R
  have c2 : ∀ w, EnvR w → Calls Tryz.prog 153 #[.int .i64 d] w fun e w' => e = .returned (.int .u64 D) ∧ Below w.heap.size w w' := fun w R => k2' w R
  have c3 : ∀ w, EnvR w → Calls Tryz.prog 138 #[.int .u64 A, .int .u64 D] w fun e w' => e = .returned (.tuple #[.int .u64 h1, .int .u64 l1]) ∧ Below w.heap.size w w' := fun w R => k3' w R
  have c4 : ∀ w, EnvR w → Calls Tryz.prog 153 #[.int .i64 c] w fun e w' => e = .returned (.int .u64 C) ∧ Below w.heap.size w w' := fun w R => k4' w R
  have c5 : ∀ w, EnvR w → Calls Tryz.prog 153 #[.int .i64 b] w fun e w' => e = .returned (.int .u64 B) ∧ Below w.heap.size w w' := fun w R => k5' w R
  have c6 : ∀ w, EnvR w → Calls Tryz.prog 138 #[.int .u64 C, .int .u64 B] w fun e w' => e = .returned (.tuple #[.int .u64 h2, .int .u64 l2]) ∧ Below w.heap.size w w' := fun w R => k6' w R
  have c7 : ∀ w, EnvR w → Calls Tryz.prog 154 #[.int .u64 h1, .int .u64 h2] w fun e w' => e = .returned (.int .i64 r1) ∧ Below w.heap.size w w' := fun w R => k7' w R
  have c8 : ∀ w, EnvR w → Calls Tryz.prog 154 #[.int .u64 l1, .int .u64 l2] w fun e w' => e = .returned (.int .i64 r2) ∧ Below w.heap.size w w' := fun w R => k8' w R
  have C1 := Lib.hid c1
  have C2 := Lib.hid c2
  have C3 := Lib.hid c3
  have C4 := Lib.hid c4
  have C5 := Lib.hid c5
  have C6 := Lib.hid c6
  have C7 := Lib.hid c7
  have C8 := Lib.hid c8
  clear c1 c2 c3 c4 c5 c6 c7 c8 k1' k2' k3' k4' k5' k6' k7' k8'
  have OR := Lib.hid (or_built r1 r2 r hr)
  clear hr
  have hb0' : Below w.heap.size w (w.alloc (Obj.cells #[Value.int .i64 a, Value.int .i64 b] 151)) := (Below.refl _ _).alloc (Nat.le_refl _) _
  have hb1' : Below w.heap.size w ((w.alloc (Obj.cells #[Value.int .i64 a, Value.int .i64 b] 151)).alloc (Obj.cells #[Value.int .i64 c, Value.int .i64 d] 151)) := hb0'.alloc hb0'.size _
  have hb := hb1'
  clear hb0' hb1'
  have x0 : ((w.alloc (Obj.cells #[Value.int .i64 a, Value.int .i64 b] 151)).alloc (Obj.cells #[Value.int .i64 c, Value.int .i64 d] 151)).cell? ⟨w.heap.size, 0, none⟩ = some (Value.int .i64 a) := by simp [go_sem]
  have x1 : ((w.alloc (Obj.cells #[Value.int .i64 a, Value.int .i64 b] 151)).alloc (Obj.cells #[Value.int .i64 c, Value.int .i64 d] 151)).cell? ⟨w.heap.size, 1, none⟩ = some (Value.int .i64 b) := by simp [go_sem]
  have x2 : ((w.alloc (Obj.cells #[Value.int .i64 a, Value.int .i64 b] 151)).alloc (Obj.cells #[Value.int .i64 c, Value.int .i64 d] 151)).cell? ⟨w.heap.size + 1, 0, none⟩ = some (Value.int .i64 c) := by simp [go_sem]
  have x3 : ((w.alloc (Obj.cells #[Value.int .i64 a, Value.int .i64 b] 151)).alloc (Obj.cells #[Value.int .i64 c, Value.int .i64 d] 151)).cell? ⟨w.heap.size + 1, 1, none⟩ = some (Value.int .i64 d) := by simp [go_sem]
  go_enter Tryz.func102, Tryz.ntmps102
  go_upto_region 1 with fail
  obtain ⟨w1, hw1⟩ : ∃ w1, (w.alloc (Obj.cells #[Value.int .i64 a, Value.int .i64 b] 151)).alloc (Obj.cells #[Value.int .i64 c, Value.int .i64 d] 151) = w1 := ⟨_, rfl⟩
  rw [hw1] at hb x0 x1 x2 x3 ⊢
  clear hw1
  have yx0 := cell_regrown x0
  have yx1 := cell_regrown x1
  have yx2 := cell_regrown x2
  have yx3 := cell_regrown x3
  have RR1 := Lib.hid (fun d os => Calls.regrown_of (C1.out (Sort.grow (redrawn w1 d) os) (R.below (hb.trans ((below_regrown w1 d os).mono hb.size)))))
  have RR2 := Lib.hid (fun d os => Calls.regrown_of (C2.out (Sort.grow (redrawn w1 d) os) (R.below (hb.trans ((below_regrown w1 d os).mono hb.size)))))
  have RR3 := Lib.hid (fun d os => Calls.regrown_of (C3.out (Sort.grow (redrawn w1 d) os) (R.below (hb.trans ((below_regrown w1 d os).mono hb.size)))))
  have RR4 := Lib.hid (fun d os => Calls.regrown_of (C4.out (Sort.grow (redrawn w1 d) os) (R.below (hb.trans ((below_regrown w1 d os).mono hb.size)))))
  have RR5 := Lib.hid (fun d os => Calls.regrown_of (C5.out (Sort.grow (redrawn w1 d) os) (R.below (hb.trans ((below_regrown w1 d os).mono hb.size)))))
  have RR6 := Lib.hid (fun d os => Calls.regrown_of (C6.out (Sort.grow (redrawn w1 d) os) (R.below (hb.trans ((below_regrown w1 d os).mono hb.size)))))
  have RR7 := Lib.hid (fun d os => Calls.regrown_of (C7.out (Sort.grow (redrawn w1 d) os) (R.below (hb.trans ((below_regrown w1 d os).mono hb.size)))))
  have RR8 := Lib.hid (fun d os => Calls.regrown_of (C8.out (Sort.grow (redrawn w1 d) os) (R.below (hb.trans ((below_regrown w1 d os).mono hb.size)))))
  refine wp_region_quiet_below (by first | assumption | kernel_rfl) (by kernel_rfl) ?_
  repeat (quiet_step (first | (with_reducible exact RR1.out _ _) | (with_reducible exact RR2.out _ _) | (with_reducible exact RR3.out _ _) | (with_reducible exact RR4.out _ _) | (with_reducible exact RR5.out _ _) | (with_reducible exact RR6.out _ _) | (with_reducible exact RR7.out _ _) | (with_reducible exact RR8.out _ _)))
  refine wpQuiet_nil ?_
  intro _ hw'
  obtain ⟨⟨dq, osq⟩, hw''⟩ := hw'
  subst hw''
  replace hb := hb.trans ((below_regrown w1 dq osq).mono hb.size)
  replace x0 := yx0 dq osq
  replace x1 := yx1 dq osq
  replace x2 := yx2 dq osq
  replace x3 := yx3 dq osq
  clear RR1 RR2 RR3 RR4 RR5 RR6 RR7 RR8 yx0 yx1 yx2 yx3
  obtain ⟨w1, hw2⟩ : ∃ w2, Sort.grow (redrawn w1 dq) osq = w2 := ⟨_, rfl⟩
  rw [hw2] at hb x0 x1 x2 x3 ⊢
  clear hw2
  go_upto_region 2 with (first | (go_at_call 153; first | ((with_reducible refine (chain2 hb (C1.out _ (R.below hb))).mono ?_); clear hb; rintro e w1 ⟨rfl, hk, hb⟩; replace x0 := below_cell hk x0; replace x1 := below_cell hk x1; replace x2 := below_cell hk x2; replace x3 := below_cell hk x3; clear hk) | ((with_reducible refine (chain2 hb (C2.out _ (R.below hb))).mono ?_); clear hb; rintro e w1 ⟨rfl, hk, hb⟩; replace x0 := below_cell hk x0; replace x1 := below_cell hk x1; replace x2 := below_cell hk x2; replace x3 := below_cell hk x3; clear hk) | ((with_reducible refine (chain2 hb (C4.out _ (R.below hb))).mono ?_); clear hb; rintro e w1 ⟨rfl, hk, hb⟩; replace x0 := below_cell hk x0; replace x1 := below_cell hk x1; replace x2 := below_cell hk x2; replace x3 := below_cell hk x3; clear hk) | ((with_reducible refine (chain2 hb (C5.out _ (R.below hb))).mono ?_); clear hb; rintro e w1 ⟨rfl, hk, hb⟩; replace x0 := below_cell hk x0; replace x1 := below_cell hk x1; replace x2 := below_cell hk x2; replace x3 := below_cell hk x3; clear hk)) | (go_at_call 138; first | ((with_reducible refine (chain2 hb (C3.out _ (R.below hb))).mono ?_); clear hb; rintro e w1 ⟨rfl, hk, hb⟩; replace x0 := below_cell hk x0; replace x1 := below_cell hk x1; replace x2 := below_cell hk x2; replace x3 := below_cell hk x3; clear hk) | ((with_reducible refine (chain2 hb (C6.out _ (R.below hb))).mono ?_); clear hb; rintro e w1 ⟨rfl, hk, hb⟩; replace x0 := below_cell hk x0; replace x1 := below_cell hk x1; replace x2 := below_cell hk x2; replace x3 := below_cell hk x3; clear hk)) | (go_at_call 154; first | ((with_reducible refine (chain2 hb (C7.out _ (R.below hb))).mono ?_); clear hb; rintro e w1 ⟨rfl, hk, hb⟩; replace x0 := below_cell hk x0; replace x1 := below_cell hk x1; replace x2 := below_cell hk x2; replace x3 := below_cell hk x3; clear hk) | ((with_reducible refine (chain2 hb (C8.out _ (R.below hb))).mono ?_); clear hb; rintro e w1 ⟨rfl, hk, hb⟩; replace x0 := below_cell hk x0; replace x1 := below_cell hk x1; replace x2 := below_cell hk x2; replace x3 := below_cell hk x3; clear hk)) | (go_at_call 120; refine (chain2A hb (OR.out _)).mono ?_; clear hb; rintro e w1 ⟨rfl, hk, hb⟩; replace x0 := below_cell hk x0; replace x1 := below_cell hk x1; replace x2 := below_cell hk x2; replace x3 := below_cell hk x3; clear hk))
  have yx0 := cell_regrown x0
  have yx1 := cell_regrown x1
  have yx2 := cell_regrown x2
  have yx3 := cell_regrown x3
  have RR1 := Lib.hid (fun d os => Calls.regrown_of (C1.out (Sort.grow (redrawn w1 d) os) (R.below (hb.trans ((below_regrown w1 d os).mono hb.size)))))
  have RR2 := Lib.hid (fun d os => Calls.regrown_of (C2.out (Sort.grow (redrawn w1 d) os) (R.below (hb.trans ((below_regrown w1 d os).mono hb.size)))))
  have RR3 := Lib.hid (fun d os => Calls.regrown_of (C3.out (Sort.grow (redrawn w1 d) os) (R.below (hb.trans ((below_regrown w1 d os).mono hb.size)))))
  have RR4 := Lib.hid (fun d os => Calls.regrown_of (C4.out (Sort.grow (redrawn w1 d) os) (R.below (hb.trans ((below_regrown w1 d os).mono hb.size)))))
  have RR5 := Lib.hid (fun d os => Calls.regrown_of (C5.out (Sort.grow (redrawn w1 d) os) (R.below (hb.trans ((below_regrown w1 d os).mono hb.size)))))
  have RR6 := Lib.hid (fun d os => Calls.regrown_of (C6.out (Sort.grow (redrawn w1 d) os) (R.below (hb.trans ((below_regrown w1 d os).mono hb.size)))))
  have RR7 := Lib.hid (fun d os => Calls.regrown_of (C7.out (Sort.grow (redrawn w1 d) os) (R.below (hb.trans ((below_regrown w1 d os).mono hb.size)))))
  have RR8 := Lib.hid (fun d os => Calls.regrown_of (C8.out (Sort.grow (redrawn w1 d) os) (R.below (hb.trans ((below_regrown w1 d os).mono hb.size)))))
  refine wp_region_quiet_below (by first | assumption | kernel_rfl) (by kernel_rfl) ?_
  repeat (quiet_step (first | (with_reducible exact RR1.out _ _) | (with_reducible exact RR2.out _ _) | (with_reducible exact RR3.out _ _) | (with_reducible exact RR4.out _ _) | (with_reducible exact RR5.out _ _) | (with_reducible exact RR6.out _ _) | (with_reducible exact RR7.out _ _) | (with_reducible exact RR8.out _ _)))
  refine wpQuiet_nil ?_
  intro _ hw'
  obtain ⟨⟨dq, osq⟩, hw''⟩ := hw'
  subst hw''
  replace hb := hb.trans ((below_regrown w1 dq osq).mono hb.size)
  replace x0 := yx0 dq osq
  replace x1 := yx1 dq osq
  replace x2 := yx2 dq osq
  replace x3 := yx3 dq osq
  clear RR1 RR2 RR3 RR4 RR5 RR6 RR7 RR8 yx0 yx1 yx2 yx3
  obtain ⟨w1, hw2⟩ : ∃ w2, Sort.grow (redrawn w1 dq) osq = w2 := ⟨_, rfl⟩
  rw [hw2] at hb x0 x1 x2 x3 ⊢
  clear hw2
  go_wp2_with (first | (go_at_call 153; first | ((with_reducible refine (chain2 hb (C1.out _ (R.below hb))).mono ?_); clear hb; rintro e w1 ⟨rfl, hk, hb⟩; replace x0 := below_cell hk x0; replace x1 := below_cell hk x1; replace x2 := below_cell hk x2; replace x3 := below_cell hk x3; clear hk) | ((with_reducible refine (chain2 hb (C2.out _ (R.below hb))).mono ?_); clear hb; rintro e w1 ⟨rfl, hk, hb⟩; replace x0 := below_cell hk x0; replace x1 := below_cell hk x1; replace x2 := below_cell hk x2; replace x3 := below_cell hk x3; clear hk) | ((with_reducible refine (chain2 hb (C4.out _ (R.below hb))).mono ?_); clear hb; rintro e w1 ⟨rfl, hk, hb⟩; replace x0 := below_cell hk x0; replace x1 := below_cell hk x1; replace x2 := below_cell hk x2; replace x3 := below_cell hk x3; clear hk) | ((with_reducible refine (chain2 hb (C5.out _ (R.below hb))).mono ?_); clear hb; rintro e w1 ⟨rfl, hk, hb⟩; replace x0 := below_cell hk x0; replace x1 := below_cell hk x1; replace x2 := below_cell hk x2; replace x3 := below_cell hk x3; clear hk)) | (go_at_call 138; first | ((with_reducible refine (chain2 hb (C3.out _ (R.below hb))).mono ?_); clear hb; rintro e w1 ⟨rfl, hk, hb⟩; replace x0 := below_cell hk x0; replace x1 := below_cell hk x1; replace x2 := below_cell hk x2; replace x3 := below_cell hk x3; clear hk) | ((with_reducible refine (chain2 hb (C6.out _ (R.below hb))).mono ?_); clear hb; rintro e w1 ⟨rfl, hk, hb⟩; replace x0 := below_cell hk x0; replace x1 := below_cell hk x1; replace x2 := below_cell hk x2; replace x3 := below_cell hk x3; clear hk)) | (go_at_call 154; first | ((with_reducible refine (chain2 hb (C7.out _ (R.below hb))).mono ?_); clear hb; rintro e w1 ⟨rfl, hk, hb⟩; replace x0 := below_cell hk x0; replace x1 := below_cell hk x1; replace x2 := below_cell hk x2; replace x3 := below_cell hk x3; clear hk) | ((with_reducible refine (chain2 hb (C8.out _ (R.below hb))).mono ?_); clear hb; rintro e w1 ⟨rfl, hk, hb⟩; replace x0 := below_cell hk x0; replace x1 := below_cell hk x1; replace x2 := below_cell hk x2; replace x3 := below_cell hk x3; clear hk)) | (go_at_call 120; refine (chain2A hb (OR.out _)).mono ?_; clear hb; rintro e w1 ⟨rfl, hk, hb⟩; replace x0 := below_cell hk x0; replace x1 := below_cell hk x1; replace x2 := below_cell hk x2; replace x3 := below_cell hk x3; clear hk))
  go_ret2
  exact ⟨rfl, hb⟩
theorem cmpI_bound (x y : Int) : -1 ≤ Lib.compareInt x y ∧ Lib.compareInt x y ≤ 1 := by
  unfold Lib.compareInt; repeat' split
  all_goals omega
theorem compareInts_any (a b c d : Int) (ha0 : -1000000000000000000 < a) (ha1 : a < 1000000000000000000) (hc0 : -1000000000000000000 < c) (hc1 : c < 1000000000000000000) (hb0 : 0 < b) (hb1 : b < 1000000000000000000) (hd0 : 0 < d) (hd1 : d < 1000000000000000000) (hs : (a < 0) ↔ (c < 0)) (w : World) (R : EnvR w) :
    Calls Tryz.prog 102 #[.agg #[.int .i64 a, .int .i64 b], .agg #[.int .i64 c, .int .i64 d]] w fun e w' => e = .returned (.tuple #[.int .i64 (a * d - c * b).sign, .bool true]) ∧ Below w.heap.size w w' := by
  have k1 := fun w R => size_any a (by omega) (by omega) w R
  have k2 := fun w R => size_any d (by omega) (by omega) w R
  have k4 := fun w R => size_any c (by omega) (by omega) w R
  have k5 := fun w R => size_any b (by omega) (by omega) w R
  have k3 := fun (w : World) (_ : EnvR w) => mul64_call a.natAbs d.natAbs _ _ (by omega) (by omega) rfl rfl w
  have k6 := fun (w : World) (_ : EnvR w) => mul64_call c.natAbs b.natAbs _ _ (by omega) (by omega) rfl rfl w
  have lx := cmp_lex (a.natAbs * d.natAbs) (c.natAbs * b.natAbs)
  have bd := cmpI_bound ((a.natAbs * d.natAbs : Nat) : Int) ((c.natAbs * b.natAbs : Nat) : Int)
  have e1 : ((a.natAbs * d.natAbs : Nat) : Int) = (a.natAbs : Int) * d := by rw [Int.natCast_mul, show (d.natAbs : Int) = d by omega]
  have e2 : ((c.natAbs * b.natAbs : Nat) : Int) = (c.natAbs : Int) * b := by rw [Int.natCast_mul, show (b.natAbs : Int) = b by omega]
  have k7 := fun w R => cmpU_any ((a.natAbs * d.natAbs / 18446744073709551616 : Nat) : Int) ((c.natAbs * b.natAbs / 18446744073709551616 : Nat) : Int) w R
  have k8 := fun w R => cmpU_any ((a.natAbs * d.natAbs % 18446744073709551616 : Nat) : Int) ((c.natAbs * b.natAbs % 18446744073709551616 : Nat) : Int) w R
  by_cases h : a < 0
  · have h2 := hs.1 h
    have e : (a * d - c * b).sign = -Lib.compareInt ((a.natAbs * d.natAbs : Nat) : Int) ((c.natAbs * b.natAbs : Nat) : Int) := by
      rw [← sign_cmp, e1, e2, show (a.natAbs : Int) = -a by omega, show (c.natAbs : Int) = -c by omega, ← Int.sign_neg]
      congr 1
      rw [Int.neg_mul, Int.neg_mul]; omega
    rw [e]
    exact cmpInts_m a b c d _ _ _ _ _ _ _ _ _ _ _ lx bd h k1 k2 k3 k4 k5 k6 k7 k8 w R
  · have h2 := mt hs.2 h
    have e : (a * d - c * b).sign = Lib.compareInt ((a.natAbs * d.natAbs : Nat) : Int) ((c.natAbs * b.natAbs : Nat) : Int) := by
      rw [← sign_cmp, e1, e2, show (a.natAbs : Int) = a by omega, show (c.natAbs : Int) = c by omega]
    rw [e]
    exact cmpInts_p a b c d _ _ _ _ _ _ _ _ _ _ _ lx bd (by omega) k1 k2 k3 k4 k5 k6 k7 k8 w R
set_option maxRecDepth 100000 in
set_option maxHeartbeats 1000000 in
theorem compareLong_any (p q : Rat) (hp : RL p 10000) (hq : RL q 10000) (w : World) (R : EnvR w) :
    Calls Tryz.prog 103 #[.agg #[.string (itoaB p.num), .string (itoaB (p.den : Int))], .agg #[.string (itoaB q.num), .string (itoaB (q.den : Int))]] w fun e w' => e = .returned (.int .i64 (p - q).num.sign) ∧ Below w.heap.size w w' := by
  rw [sub_sign]
  have c1 : ∀ w, EnvR w → Calls Tryz.prog 146 #[.string (itoaB p.num), .string (itoaB (q.den : Int))] w fun e w' => e = .returned (.string (itoaB (p.num * (q.den : Int)))) ∧ Below w.heap.size w w' := fun w R => mul_any _ _ w R.env (Nat.le_trans hp.1 (by decide)) (Nat.le_trans hq.2 (by decide))
  have c2 : ∀ w, EnvR w → Calls Tryz.prog 146 #[.string (itoaB q.num), .string (itoaB (p.den : Int))] w fun e w' => e = .returned (.string (itoaB (q.num * (p.den : Int)))) ∧ Below w.heap.size w w' := fun w R => mul_any _ _ w R.env (Nat.le_trans hq.1 (by decide)) (Nat.le_trans hp.2 (by decide))
  have c3 : ∀ w, EnvR w → Calls Tryz.prog 66 #[.string (itoaB (p.num * (q.den : Int))), .string (itoaB (q.num * (p.den : Int)))] w fun e w' => e = .returned (.int .i64 ((p.num * (q.den : Int)) - (q.num * (p.den : Int))).sign) ∧ Below w.heap.size w w' := fun w R => compare_any _ _ w
  obtain ⟨z, ez⟩ : ∃ v, ((p.num * (q.den : Int)) - (q.num * (p.den : Int))).sign = v := ⟨_, rfl⟩
  try simp only [ez] at c1 c2 c3 ⊢
  obtain ⟨x, ex⟩ : ∃ v, itoaB (p.num * (q.den : Int)) = v := ⟨_, rfl⟩
  try simp only [ex] at c1 c2 c3 ⊢
  obtain ⟨y, ey⟩ : ∃ v, itoaB (q.num * (p.den : Int)) = v := ⟨_, rfl⟩
  try simp only [ey] at c1 c2 c3 ⊢
  obtain ⟨n, en⟩ : ∃ v, itoaB p.num = v := ⟨_, rfl⟩
  try simp only [en] at c1 c2 c3 ⊢
  obtain ⟨d, ed⟩ : ∃ v, itoaB (p.den : Int) = v := ⟨_, rfl⟩
  try simp only [ed] at c1 c2 c3 ⊢
  obtain ⟨m, em⟩ : ∃ v, itoaB q.num = v := ⟨_, rfl⟩
  try simp only [em] at c1 c2 c3 ⊢
  obtain ⟨e', ee'⟩ : ∃ v, itoaB (q.den : Int) = v := ⟨_, rfl⟩
  try simp only [ee'] at c1 c2 c3 ⊢
  have C1 := Lib.hid c1
  have C2 := Lib.hid c2
  have C3 := Lib.hid c3
  clear c1 c2 c3 ez ex ey en ed em ee' hp hq
  have hb0' : Below w.heap.size w (w.alloc (Obj.cells #[Value.string n, Value.string d] 153)) := (Below.refl _ _).alloc (Nat.le_refl _) _
  have hb1' : Below w.heap.size w ((w.alloc (Obj.cells #[Value.string n, Value.string d] 153)).alloc (Obj.cells #[Value.string m, Value.string e'] 153)) := hb0'.alloc hb0'.size _
  have hb := hb1'
  clear hb0' hb1'
  have x0 : ((w.alloc (Obj.cells #[Value.string n, Value.string d] 153)).alloc (Obj.cells #[Value.string m, Value.string e'] 153)).cell? ⟨w.heap.size, 0, none⟩ = some (Value.string n) := by simp [go_sem]
  have x1 : ((w.alloc (Obj.cells #[Value.string n, Value.string d] 153)).alloc (Obj.cells #[Value.string m, Value.string e'] 153)).cell? ⟨w.heap.size, 1, none⟩ = some (Value.string d) := by simp [go_sem]
  have x2 : ((w.alloc (Obj.cells #[Value.string n, Value.string d] 153)).alloc (Obj.cells #[Value.string m, Value.string e'] 153)).cell? ⟨w.heap.size + 1, 0, none⟩ = some (Value.string m) := by simp [go_sem]
  have x3 : ((w.alloc (Obj.cells #[Value.string n, Value.string d] 153)).alloc (Obj.cells #[Value.string m, Value.string e'] 153)).cell? ⟨w.heap.size + 1, 1, none⟩ = some (Value.string e') := by simp [go_sem]
  go_enter Tryz.func103, Tryz.ntmps103
  go_upto_region 1 with fail
  obtain ⟨w1, hw1⟩ : ∃ w1, (w.alloc (Obj.cells #[Value.string n, Value.string d] 153)).alloc (Obj.cells #[Value.string m, Value.string e'] 153) = w1 := ⟨_, rfl⟩
  rw [hw1] at hb x0 x1 x2 x3 ⊢
  clear hw1
  have yx0 := cell_regrown x0
  have yx1 := cell_regrown x1
  have yx2 := cell_regrown x2
  have yx3 := cell_regrown x3
  have RR1 := Lib.hid (fun d os => Calls.regrown_of (C1.out (Sort.grow (redrawn w1 d) os) (R.below (hb.trans ((below_regrown w1 d os).mono hb.size)))))
  have RR2 := Lib.hid (fun d os => Calls.regrown_of (C2.out (Sort.grow (redrawn w1 d) os) (R.below (hb.trans ((below_regrown w1 d os).mono hb.size)))))
  have RR3 := Lib.hid (fun d os => Calls.regrown_of (C3.out (Sort.grow (redrawn w1 d) os) (R.below (hb.trans ((below_regrown w1 d os).mono hb.size)))))
  refine wp_region_quiet_below (by first | assumption | kernel_rfl) (by kernel_rfl) ?_
  repeat (quiet_step (first | (with_reducible exact RR1.out _ _) | (with_reducible exact RR2.out _ _) | (with_reducible exact RR3.out _ _)))
  refine wpQuiet_nil ?_
  intro _ hw'
  obtain ⟨⟨dq, osq⟩, hw''⟩ := hw'
  subst hw''
  replace hb := hb.trans ((below_regrown w1 dq osq).mono hb.size)
  replace x0 := yx0 dq osq
  replace x1 := yx1 dq osq
  replace x2 := yx2 dq osq
  replace x3 := yx3 dq osq
  clear RR1 RR2 RR3 yx0 yx1 yx2 yx3
  obtain ⟨w1, hw2⟩ : ∃ w2, Sort.grow (redrawn w1 dq) osq = w2 := ⟨_, rfl⟩
  rw [hw2] at hb x0 x1 x2 x3 ⊢
  clear hw2
  go_wp2_with (first | (go_at_call 146; first | ((with_reducible refine (chain2 hb (C1.out _ (R.below hb))).mono ?_); clear hb; rintro e w1 ⟨rfl, hk, hb⟩; replace x0 := below_cell hk x0; replace x1 := below_cell hk x1; replace x2 := below_cell hk x2; replace x3 := below_cell hk x3; clear hk) | ((with_reducible refine (chain2 hb (C2.out _ (R.below hb))).mono ?_); clear hb; rintro e w1 ⟨rfl, hk, hb⟩; replace x0 := below_cell hk x0; replace x1 := below_cell hk x1; replace x2 := below_cell hk x2; replace x3 := below_cell hk x3; clear hk)) | (go_at_call 66; ((with_reducible refine (chain2 hb (C3.out _ (R.below hb))).mono ?_); clear hb; rintro e w1 ⟨rfl, hk, hb⟩; replace x0 := below_cell hk x0; replace x1 := below_cell hk x1; replace x2 := below_cell hk x2; replace x3 := below_cell hk x3; clear hk)))
  go_ret
  exact ⟨rfl, hb⟩
set_option maxRecDepth 100000 in
set_option maxHeartbeats 1000000 in
theorem calcCmp_yes (s t : ByteArray) (x y u v : Int) (r0 : Int) (h1 : ∀ w, EnvR w → Calls Tryz.prog 18 #[.string s] w fun e w' => e = .returned (.tuple #[.int .i64 x, .int .i64 y, .bool true]) ∧ Below w.heap.size w w') (h2 : ∀ w, EnvR w → Calls Tryz.prog 18 #[.string t] w fun e w' => e = .returned (.tuple #[.int .i64 u, .int .i64 v, .bool true]) ∧ Below w.heap.size w w') (h3 : ∀ w, EnvR w → Calls Tryz.prog 102 #[.agg #[.int .i64 x, .int .i64 y], .agg #[.int .i64 u, .int .i64 v]] w fun e w' => e = .returned (.tuple #[.int .i64 r0, .bool true]) ∧ Below w.heap.size w w') (w : World) (R : EnvR w) :
    Calls Tryz.prog 101 #[.string s, .string t, .func (Fn.func 102) #[] #[], .func (Fn.func 103) #[] #[]] w fun e w' => e = .returned (.int .i64 r0) ∧ Below w.heap.size w w' := by
  have c1 : ∀ w, EnvR w → Calls Tryz.prog 18 #[.string s] w fun e w' => e = .returned (.tuple #[.int .i64 x, .int .i64 y, .bool true]) ∧ Below w.heap.size w w' := fun w R => h1 w R
  have c2 : ∀ w, EnvR w → Calls Tryz.prog 18 #[.string t] w fun e w' => e = .returned (.tuple #[.int .i64 u, .int .i64 v, .bool true]) ∧ Below w.heap.size w w' := fun w R => h2 w R
  have c3 : ∀ w, EnvR w → Calls Tryz.prog 102 #[.agg #[.int .i64 x, .int .i64 y], .agg #[.int .i64 u, .int .i64 v]] w fun e w' => e = .returned (.tuple #[.int .i64 r0, .bool true]) ∧ Below w.heap.size w w' := fun w R => h3 w R
  have C1 := Lib.hid c1
  have C2 := Lib.hid c2
  have C3 := Lib.hid c3
  clear c1 c2 c3 h1 h2 h3
  have hb := Below.refl w.heap.size w
  go_enter Tryz.func101, Tryz.ntmps101
  go_wp2_with (first | (go_at_call 18; first | ((with_reducible refine (chain hb (C1.out _ (R.below hb))).mono ?_); clear hb; rintro e w1 ⟨rfl, hb⟩) | ((with_reducible refine (chain hb (C2.out _ (R.below hb))).mono ?_); clear hb; rintro e w1 ⟨rfl, hb⟩)) | (go_at_call 102; ((with_reducible refine (chain hb (C3.out _ (R.below hb))).mono ?_); clear hb; rintro e w1 ⟨rfl, hb⟩)))
  go_ret
  exact ⟨rfl, hb⟩
set_option maxRecDepth 100000 in
set_option maxHeartbeats 1000000 in
theorem calcCmp_la (s t a1 a2 b1 b2 : ByteArray) (x y u v : Int) (k : Bool) (r1 : Int) (h1 : ∀ w, EnvR w → Calls Tryz.prog 18 #[.string s] w fun e w' => e = .returned (.tuple #[.int .i64 x, .int .i64 y, .bool false]) ∧ Below w.heap.size w w') (h2 : ∀ w, EnvR w → Calls Tryz.prog 18 #[.string t] w fun e w' => e = .returned (.tuple #[.int .i64 u, .int .i64 v, .bool k]) ∧ Below w.heap.size w w') (h3 : ∀ w, EnvR w → Calls Tryz.prog 152 #[.string s] w fun e w' => e = .returned (.agg #[.string a1, .string a2]) ∧ Below w.heap.size w w') (h4 : ∀ w, EnvR w → Calls Tryz.prog 152 #[.string t] w fun e w' => e = .returned (.agg #[.string b1, .string b2]) ∧ Below w.heap.size w w') (h5 : ∀ w, EnvR w → Calls Tryz.prog 103 #[.agg #[.string a1, .string a2], .agg #[.string b1, .string b2]] w fun e w' => e = .returned (.int .i64 r1) ∧ Below w.heap.size w w') (w : World) (R : EnvR w) :
    Calls Tryz.prog 101 #[.string s, .string t, .func (Fn.func 102) #[] #[], .func (Fn.func 103) #[] #[]] w fun e w' => e = .returned (.int .i64 r1) ∧ Below w.heap.size w w' := by
  have c1 : ∀ w, EnvR w → Calls Tryz.prog 18 #[.string s] w fun e w' => e = .returned (.tuple #[.int .i64 x, .int .i64 y, .bool false]) ∧ Below w.heap.size w w' := fun w R => h1 w R
  have c2 : ∀ w, EnvR w → Calls Tryz.prog 18 #[.string t] w fun e w' => e = .returned (.tuple #[.int .i64 u, .int .i64 v, .bool k]) ∧ Below w.heap.size w w' := fun w R => h2 w R
  have c3 : ∀ w, EnvR w → Calls Tryz.prog 152 #[.string s] w fun e w' => e = .returned (.agg #[.string a1, .string a2]) ∧ Below w.heap.size w w' := fun w R => h3 w R
  have c4 : ∀ w, EnvR w → Calls Tryz.prog 152 #[.string t] w fun e w' => e = .returned (.agg #[.string b1, .string b2]) ∧ Below w.heap.size w w' := fun w R => h4 w R
  have c5 : ∀ w, EnvR w → Calls Tryz.prog 103 #[.agg #[.string a1, .string a2], .agg #[.string b1, .string b2]] w fun e w' => e = .returned (.int .i64 r1) ∧ Below w.heap.size w w' := fun w R => h5 w R
  have C1 := Lib.hid c1
  have C2 := Lib.hid c2
  have C3 := Lib.hid c3
  have C4 := Lib.hid c4
  have C5 := Lib.hid c5
  clear c1 c2 c3 c4 c5 h1 h2 h3 h4 h5
  have hb := Below.refl w.heap.size w
  go_enter Tryz.func101, Tryz.ntmps101
  go_wp2_with (first | (go_at_call 18; first | ((with_reducible refine (chain hb (C1.out _ (R.below hb))).mono ?_); clear hb; rintro e w1 ⟨rfl, hb⟩) | ((with_reducible refine (chain hb (C2.out _ (R.below hb))).mono ?_); clear hb; rintro e w1 ⟨rfl, hb⟩)) | (go_at_call 152; first | ((with_reducible refine (chain hb (C3.out _ (R.below hb))).mono ?_); clear hb; rintro e w1 ⟨rfl, hb⟩) | ((with_reducible refine (chain hb (C4.out _ (R.below hb))).mono ?_); clear hb; rintro e w1 ⟨rfl, hb⟩)) | (go_at_call 103; ((with_reducible refine (chain hb (C5.out _ (R.below hb))).mono ?_); clear hb; rintro e w1 ⟨rfl, hb⟩)))
  go_ret
  exact ⟨rfl, hb⟩
set_option maxRecDepth 100000 in
set_option maxHeartbeats 1000000 in
theorem calcCmp_lb (s t a1 a2 b1 b2 : ByteArray) (x y u v : Int) (r1 : Int) (h1 : ∀ w, EnvR w → Calls Tryz.prog 18 #[.string s] w fun e w' => e = .returned (.tuple #[.int .i64 x, .int .i64 y, .bool true]) ∧ Below w.heap.size w w') (h2 : ∀ w, EnvR w → Calls Tryz.prog 18 #[.string t] w fun e w' => e = .returned (.tuple #[.int .i64 u, .int .i64 v, .bool false]) ∧ Below w.heap.size w w') (h3 : ∀ w, EnvR w → Calls Tryz.prog 152 #[.string s] w fun e w' => e = .returned (.agg #[.string a1, .string a2]) ∧ Below w.heap.size w w') (h4 : ∀ w, EnvR w → Calls Tryz.prog 152 #[.string t] w fun e w' => e = .returned (.agg #[.string b1, .string b2]) ∧ Below w.heap.size w w') (h5 : ∀ w, EnvR w → Calls Tryz.prog 103 #[.agg #[.string a1, .string a2], .agg #[.string b1, .string b2]] w fun e w' => e = .returned (.int .i64 r1) ∧ Below w.heap.size w w') (w : World) (R : EnvR w) :
    Calls Tryz.prog 101 #[.string s, .string t, .func (Fn.func 102) #[] #[], .func (Fn.func 103) #[] #[]] w fun e w' => e = .returned (.int .i64 r1) ∧ Below w.heap.size w w' := by
  have c1 : ∀ w, EnvR w → Calls Tryz.prog 18 #[.string s] w fun e w' => e = .returned (.tuple #[.int .i64 x, .int .i64 y, .bool true]) ∧ Below w.heap.size w w' := fun w R => h1 w R
  have c2 : ∀ w, EnvR w → Calls Tryz.prog 18 #[.string t] w fun e w' => e = .returned (.tuple #[.int .i64 u, .int .i64 v, .bool false]) ∧ Below w.heap.size w w' := fun w R => h2 w R
  have c3 : ∀ w, EnvR w → Calls Tryz.prog 152 #[.string s] w fun e w' => e = .returned (.agg #[.string a1, .string a2]) ∧ Below w.heap.size w w' := fun w R => h3 w R
  have c4 : ∀ w, EnvR w → Calls Tryz.prog 152 #[.string t] w fun e w' => e = .returned (.agg #[.string b1, .string b2]) ∧ Below w.heap.size w w' := fun w R => h4 w R
  have c5 : ∀ w, EnvR w → Calls Tryz.prog 103 #[.agg #[.string a1, .string a2], .agg #[.string b1, .string b2]] w fun e w' => e = .returned (.int .i64 r1) ∧ Below w.heap.size w w' := fun w R => h5 w R
  have C1 := Lib.hid c1
  have C2 := Lib.hid c2
  have C3 := Lib.hid c3
  have C4 := Lib.hid c4
  have C5 := Lib.hid c5
  clear c1 c2 c3 c4 c5 h1 h2 h3 h4 h5
  have hb := Below.refl w.heap.size w
  go_enter Tryz.func101, Tryz.ntmps101
  go_wp2_with (first | (go_at_call 18; first | ((with_reducible refine (chain hb (C1.out _ (R.below hb))).mono ?_); clear hb; rintro e w1 ⟨rfl, hb⟩) | ((with_reducible refine (chain hb (C2.out _ (R.below hb))).mono ?_); clear hb; rintro e w1 ⟨rfl, hb⟩)) | (go_at_call 152; first | ((with_reducible refine (chain hb (C3.out _ (R.below hb))).mono ?_); clear hb; rintro e w1 ⟨rfl, hb⟩) | ((with_reducible refine (chain hb (C4.out _ (R.below hb))).mono ?_); clear hb; rintro e w1 ⟨rfl, hb⟩)) | (go_at_call 103; ((with_reducible refine (chain hb (C5.out _ (R.below hb))).mono ?_); clear hb; rintro e w1 ⟨rfl, hb⟩)))
  go_ret
  exact ⟨rfl, hb⟩
theorem calcCmp_any (p q : Rat) (w : World) (R : EnvR w) (hp : RL p 10000) (hq : RL q 10000) (hs : (p.num < 0) ↔ (q.num < 0)) :
    Calls Tryz.prog 101 #[.string (ratB p), .string (ratB q), .func (Fn.func 102) #[] #[], .func (Fn.func 103) #[] #[]] w fun e w' => e = .returned (.int .i64 (p - q).num.sign) ∧ Below w.heap.size w w' := by
  have lp := fun w R => partsOf_any p (hp.mono (by decide)) w R
  have lq := fun w R => partsOf_any q (hq.mono (by decide)) w R
  have lo := fun w R => compareLong_any p q hp hq w R
  have p0 := p.den_pos
  have q0 := q.den_pos
  by_cases h1 : shortQ p
  · have c1 := fun w R => rsmall_yes p h1 w R
    by_cases h2 : shortQ q
    · have c2 := fun w R => rsmall_yes q h2 w R
      have ci := fun w R => compareInts_any p.num p.den q.num q.den h1.1 h1.2.1 h2.1 h2.2.1 (by omega) (by have := h1.2.2; omega) (by omega) (by have := h2.2.2; omega) hs w R
      rw [← sub_sign] at ci
      exact calcCmp_yes _ _ _ _ _ _ _ c1 c2 ci w R
    · exact calcCmp_lb _ _ _ _ _ _ _ _ _ _ _ c1 (fun w R => rsmall_no q h2 w R (hq.mono (by decide))) lp lq lo w R
  · by_cases h2 : shortQ q
    · exact calcCmp_la _ _ _ _ _ _ _ _ _ _ _ _ (fun w R => rsmall_no p h1 w R (hp.mono (by decide))) (fun w R => rsmall_yes q h2 w R) lp lq lo w R
    · exact calcCmp_la _ _ _ _ _ _ _ _ _ _ _ _ (fun w R => rsmall_no p h1 w R (hp.mono (by decide))) (fun w R => rsmall_no q h2 w R (hq.mono (by decide))) lp lq lo w R
set_option maxRecDepth 100000 in
set_option maxHeartbeats 200000 in
theorem rcompare_eq (a : ByteArray) (w : World) (_R : EnvR w) :
    Calls Tryz.prog 36 #[.string a, .string a] w fun e w' => e = .returned (.int .i64 0) ∧ Below w.heap.size w w' := by
  have hb := Below.refl w.heap.size w
  go_enter Tryz.func36, Tryz.ntmps36
  go_wp2
  go_ret
  exact ⟨rfl, hb⟩
set_option maxRecDepth 100000 in
set_option maxHeartbeats 200000 in
theorem rcompare_ne (p q : Rat) (hp : RL p 10000) (hq : RL q 10000) (hne : ((ratB p).toList == (ratB q).toList) = false) (h : (Lib.compareInt p.num.sign q.num.sign) ≠ 0) (w : World) (R : EnvR w) :
    Calls Tryz.prog 36 #[.string (ratB p), .string (ratB q)] w fun e w' => e = .returned (.int .i64 (Lib.compareInt p.num.sign q.num.sign)) ∧ Below w.heap.size w w' := by
  have c1 : ∀ w, EnvR w → Calls Tryz.prog 37 #[.string (ratB p)] w fun e w' => e = .returned (.int .i64 p.num.sign) ∧ Below w.heap.size w w' := fun w R => rsign_any p (hp.mono (by decide)) w R
  have c2 : ∀ w, EnvR w → Calls Tryz.prog 37 #[.string (ratB q)] w fun e w' => e = .returned (.int .i64 q.num.sign) ∧ Below w.heap.size w w' := fun w R => rsign_any q (hq.mono (by decide)) w R
  have c3 : ∀ w, EnvR w → Calls Tryz.prog 100 #[.int .i64 p.num.sign, .int .i64 q.num.sign] w fun e w' => e = .returned (.int .i64 (Lib.compareInt p.num.sign q.num.sign)) ∧ Below w.heap.size w w' := fun w R => (Tryz.cmp_Compare_int _ _ w).mono fun _ _ h => ⟨h.1, h.2 ▸ Below.refl _ _⟩
  have hne' : ((ratB p).toList == (ratB q).toList) = false := hne
  have h' : (Lib.compareInt p.num.sign q.num.sign) ≠ 0 := h
  obtain ⟨z, ez⟩ : ∃ v, (Lib.compareInt p.num.sign q.num.sign) = v := ⟨_, rfl⟩
  try simp only [ez] at c1 c2 c3 hne' h' ⊢
  obtain ⟨s, es⟩ : ∃ v, p.num.sign = v := ⟨_, rfl⟩
  try simp only [es] at c1 c2 c3 hne' h' ⊢
  obtain ⟨t, et⟩ : ∃ v, q.num.sign = v := ⟨_, rfl⟩
  try simp only [et] at c1 c2 c3 hne' h' ⊢
  obtain ⟨a, ea⟩ : ∃ v, ratB p = v := ⟨_, rfl⟩
  try simp only [ea] at c1 c2 c3 hne' h' ⊢
  obtain ⟨b, eb⟩ : ∃ v, ratB q = v := ⟨_, rfl⟩
  try simp only [eb] at c1 c2 c3 hne' h' ⊢
  have C1 := Lib.hid c1
  have C2 := Lib.hid c2
  have C3 := Lib.hid c3
  clear c1 c2 c3 ez es et ea eb hp hq hne h
  have hb := Below.refl w.heap.size w
  go_enter Tryz.func36, Tryz.ntmps36
  go_wp2_with (first | (go_at_call 37; first | ((with_reducible refine (chain hb (C1.out _ (R.below hb))).mono ?_); clear hb; rintro e w1 ⟨rfl, hb⟩) | ((with_reducible refine (chain hb (C2.out _ (R.below hb))).mono ?_); clear hb; rintro e w1 ⟨rfl, hb⟩)) | (go_at_call 100; ((with_reducible refine (chain hb (C3.out _ (R.below hb))).mono ?_); clear hb; rintro e w1 ⟨rfl, hb⟩)))
  go_ret
  exact ⟨rfl, hb⟩
set_option maxRecDepth 100000 in
set_option maxHeartbeats 200000 in
theorem rcompare_go (p q : Rat) (hp : RL p 10000) (hq : RL q 10000) (hne : ((ratB p).toList == (ratB q).toList) = false) (h : (Lib.compareInt p.num.sign q.num.sign) = 0) (hs : (p.num < 0) ↔ (q.num < 0)) (w : World) (R : EnvR w) :
    Calls Tryz.prog 36 #[.string (ratB p), .string (ratB q)] w fun e w' => e = .returned (.int .i64 (p - q).num.sign) ∧ Below w.heap.size w w' := by
  have c1 : ∀ w, EnvR w → Calls Tryz.prog 37 #[.string (ratB p)] w fun e w' => e = .returned (.int .i64 p.num.sign) ∧ Below w.heap.size w w' := fun w R => rsign_any p (hp.mono (by decide)) w R
  have c2 : ∀ w, EnvR w → Calls Tryz.prog 37 #[.string (ratB q)] w fun e w' => e = .returned (.int .i64 q.num.sign) ∧ Below w.heap.size w w' := fun w R => rsign_any q (hq.mono (by decide)) w R
  have c3 : ∀ w, EnvR w → Calls Tryz.prog 100 #[.int .i64 p.num.sign, .int .i64 q.num.sign] w fun e w' => e = .returned (.int .i64 0) ∧ Below w.heap.size w w' := fun w R => by rw [← h]; exact (Tryz.cmp_Compare_int _ _ w).mono fun _ _ h => ⟨h.1, h.2 ▸ Below.refl _ _⟩
  have c4 : ∀ w, EnvR w → Calls Tryz.prog 101 #[.string (ratB p), .string (ratB q), .func (Fn.func 102) #[] #[], .func (Fn.func 103) #[] #[]] w fun e w' => e = .returned (.int .i64 (p - q).num.sign) ∧ Below w.heap.size w w' := fun w R => calcCmp_any p q w R hp hq hs
  have hne' : ((ratB p).toList == (ratB q).toList) = false := hne
  obtain ⟨z, ez⟩ : ∃ v, (p - q).num.sign = v := ⟨_, rfl⟩
  try simp only [ez] at c1 c2 c3 c4 hne' ⊢
  obtain ⟨s, es⟩ : ∃ v, p.num.sign = v := ⟨_, rfl⟩
  try simp only [es] at c1 c2 c3 c4 hne' ⊢
  obtain ⟨t, et⟩ : ∃ v, q.num.sign = v := ⟨_, rfl⟩
  try simp only [et] at c1 c2 c3 c4 hne' ⊢
  obtain ⟨a, ea⟩ : ∃ v, ratB p = v := ⟨_, rfl⟩
  try simp only [ea] at c1 c2 c3 c4 hne' ⊢
  obtain ⟨b, eb⟩ : ∃ v, ratB q = v := ⟨_, rfl⟩
  try simp only [eb] at c1 c2 c3 c4 hne' ⊢
  have C1 := Lib.hid c1
  have C2 := Lib.hid c2
  have C3 := Lib.hid c3
  have C4 := Lib.hid c4
  clear c1 c2 c3 c4 ez es et ea eb hp hq hne h hs
  have hb := Below.refl w.heap.size w
  go_enter Tryz.func36, Tryz.ntmps36
  go_wp2_with (first | (go_at_call 37; first | ((with_reducible refine (chain hb (C1.out _ (R.below hb))).mono ?_); clear hb; rintro e w1 ⟨rfl, hb⟩) | ((with_reducible refine (chain hb (C2.out _ (R.below hb))).mono ?_); clear hb; rintro e w1 ⟨rfl, hb⟩)) | (go_at_call 100; ((with_reducible refine (chain hb (C3.out _ (R.below hb))).mono ?_); clear hb; rintro e w1 ⟨rfl, hb⟩)) | (go_at_call 101; ((with_reducible refine (chain hb (C4.out _ (R.below hb))).mono ?_); clear hb; rintro e w1 ⟨rfl, hb⟩)))
  go_ret
  exact ⟨rfl, hb⟩
theorem sign_differ (p q : Rat) (h : p.num.sign ≠ q.num.sign) : Lib.compareInt p.num.sign q.num.sign = (p - q).num.sign := by
  rw [sub_sign]
  have p0 := p.den_pos
  have q0 := q.den_pos
  have a1 : p.num < 0 → p.num * (q.den : Int) < 0 := fun h => Int.mul_neg_of_neg_of_pos h (by omega)
  have a2 : 0 < p.num → 0 < p.num * (q.den : Int) := fun h => Int.mul_pos h (by omega)
  have b1 : q.num < 0 → q.num * (p.den : Int) < 0 := fun h => Int.mul_neg_of_neg_of_pos h (by omega)
  have b2 : 0 < q.num → 0 < q.num * (p.den : Int) := fun h => Int.mul_pos h (by omega)
  have a3 : p.num = 0 → p.num * (q.den : Int) = 0 := fun h => by rw [h, Int.zero_mul]
  have b3 : q.num = 0 → q.num * (p.den : Int) = 0 := fun h => by rw [h, Int.zero_mul]
  rw [sign_cmp]
  unfold Lib.compareInt
  rcases Int.lt_trichotomy p.num 0 with h1 | h1 | h1 <;> rcases Int.lt_trichotomy q.num 0 with h2 | h2 | h2
  all_goals (first | (rw [Int.sign_eq_neg_one_of_neg h1] at h ⊢) | (rw [Int.sign_eq_one_of_pos h1] at h ⊢) | (rw [h1] at h ⊢; rw [Int.sign_zero] at h ⊢))
  all_goals (first | (rw [Int.sign_eq_neg_one_of_neg h2] at h ⊢) | (rw [Int.sign_eq_one_of_pos h2] at h ⊢) | (rw [h2] at h ⊢; rw [Int.sign_zero] at h ⊢))
  all_goals (repeat' split)
  all_goals (try omega)
  all_goals (first | (have := a1 h1; omega) | (have := a2 h1; omega) | skip)
/-- The order of two numbers. -/
theorem rcompare_any (p q : Rat) (hp : RL p 10000) (hq : RL q 10000) (w : World) (R : EnvR w) :
    Calls Tryz.prog 36 #[.string (ratB p), .string (ratB q)] w fun e w' => e = .returned (.int .i64 (p - q).num.sign) ∧ Below w.heap.size w w' := by
  by_cases he : p = q
  · subst he
    rw [Rat.sub_self]
    exact rcompare_eq _ w R
  · have hne : ((ratB p).toList == (ratB q).toList) = false := by rw [rb_eq]; exact decide_eq_false (fun h => he (ratB_inj h))
    by_cases h : p.num.sign = q.num.sign
    · refine rcompare_go p q hp hq hne ?_ ?_ w R
      · rw [h]; unfold Lib.compareInt; rw [if_neg (by omega), if_neg (by omega)]
      · rw [← Int.sign_eq_neg_one_iff_neg, ← Int.sign_eq_neg_one_iff_neg, h]
    · rw [← sign_differ p q h]
      refine rcompare_ne p q hp hq hne ?_ w R
      unfold Lib.compareInt; split
      · decide
      · split
        · decide
        · omega
end Go.Proofs.YtgllflfifbacnaaGreatDoor.Kl
