/- Contracts: differences and sums of rational numbers. -/
import Derived.Test.YtgllflfifbacnaaGreatDoorKlRatE
import Derived.Lib.QuietBelow
namespace Go.Proofs.YtgllflfifbacnaaGreatDoor.Kl
open Go Go.RowKit

set_option maxRecDepth 100000 in
set_option maxHeartbeats 1000000 in
theorem subInts_w (a b c d : Int) (f : Bool) (r : ByteArray) (hc0 : -1000000000000000000 < c) (hc1 : c < 1000000000000000000) (h : ∀ w, EnvR w → Calls Tryz.prog 106 #[.agg #[.int .i64 a, .int .i64 b], .agg #[.int .i64 (-c), .int .i64 d]] w fun e w' => e = .returned (.tuple #[.string r, .bool f]) ∧ Below w.heap.size w w') (w : World) (R : EnvR w) :
    Calls Tryz.prog 108 #[.agg #[.int .i64 a, .int .i64 b], .agg #[.int .i64 c, .int .i64 d]] w fun e w' => e = .returned (.tuple #[.string r, .bool f]) ∧ Below w.heap.size w w' := by
  have c1 : ∀ w, EnvR w → Calls Tryz.prog 106 #[.agg #[.int .i64 a, .int .i64 b], .agg #[.int .i64 (-c), .int .i64 d]] w fun e w' => e = .returned (.tuple #[.string r, .bool f]) ∧ Below w.heap.size w w' := fun w R => h w R
  have C1 := Lib.hid c1
  clear c1 h
  have hb0' : Below w.heap.size w (w.alloc (Obj.cells #[Value.int .i64 a, Value.int .i64 b] 151)) := (Below.refl _ _).alloc (Nat.le_refl _) _
  have hb1' : Below w.heap.size w ((w.alloc (Obj.cells #[Value.int .i64 a, Value.int .i64 b] 151)).alloc (Obj.cells #[Value.int .i64 c, Value.int .i64 d] 151)) := hb0'.alloc hb0'.size _
  have hb := hb1'
  clear hb0' hb1'
  have x0 : ((w.alloc (Obj.cells #[Value.int .i64 a, Value.int .i64 b] 151)).alloc (Obj.cells #[Value.int .i64 c, Value.int .i64 d] 151)).cell? ⟨w.heap.size, 0, none⟩ = some (Value.int .i64 a) := by simp [go_sem]
  have x1 : ((w.alloc (Obj.cells #[Value.int .i64 a, Value.int .i64 b] 151)).alloc (Obj.cells #[Value.int .i64 c, Value.int .i64 d] 151)).cell? ⟨w.heap.size, 1, none⟩ = some (Value.int .i64 b) := by simp [go_sem]
  have x2 : ((w.alloc (Obj.cells #[Value.int .i64 a, Value.int .i64 b] 151)).alloc (Obj.cells #[Value.int .i64 c, Value.int .i64 d] 151)).cell? ⟨w.heap.size + 1, 0, none⟩ = some (Value.int .i64 c) := by simp [go_sem]
  have x3 : ((w.alloc (Obj.cells #[Value.int .i64 a, Value.int .i64 b] 151)).alloc (Obj.cells #[Value.int .i64 c, Value.int .i64 d] 151)).cell? ⟨w.heap.size + 1, 1, none⟩ = some (Value.int .i64 d) := by simp [go_sem]
  go_enter Tryz.func108, Tryz.ntmps108
  go_wp2_with (go_at_call 106; ((with_reducible refine (chain2 hb (C1.out _ (R.below hb))).mono ?_); clear hb; rintro e w1 ⟨rfl, hk, hb⟩; replace x0 := below_cell hk x0; replace x1 := below_cell hk x1; replace x2 := below_cell hk x2; replace x3 := below_cell hk x3; clear hk))
  go_ret2
  exact ⟨rfl, hb⟩
set_option maxRecDepth 100000 in
set_option maxHeartbeats 1000000 in
theorem subLong_any (p q : Rat) (hp : RL p 10000) (hq : RL q 10000) (w : World) (R : EnvR w) :
    Calls Tryz.prog 109 #[.agg #[.string (itoaB p.num), .string (itoaB (p.den : Int))], .agg #[.string (itoaB q.num), .string (itoaB (q.den : Int))]] w fun e w' => e = .returned (.string (ratB (p - q))) ∧ Below w.heap.size w w' := by
  have c1 : ∀ w, EnvR w → Calls Tryz.prog 74 #[.string (itoaB q.num)] w fun e w' => e = .returned (.string (itoaB (-q.num))) ∧ Below w.heap.size w w' := fun w R => neg_any _ w (Nat.le_trans hq.1 (by decide))
  have c2 : ∀ w, EnvR w → Calls Tryz.prog 107 #[.agg #[.string (itoaB p.num), .string (itoaB (p.den : Int))], .agg #[.string (itoaB (-q.num)), .string (itoaB (q.den : Int))]] w fun e w' => e = .returned (.string (ratB (p - q))) ∧ Below w.heap.size w w' := fun w R => by have := addLong_any p (-q) hp (RL_neg hq) w R; rwa [← Rat.sub_eq_add_neg] at this
  obtain ⟨r, er⟩ : ∃ v, ratB (p - q) = v := ⟨_, rfl⟩
  try simp only [er] at c1 c2 ⊢
  obtain ⟨v, ev⟩ : ∃ v, itoaB (-q.num) = v := ⟨_, rfl⟩
  try simp only [ev] at c1 c2 ⊢
  obtain ⟨n, en⟩ : ∃ v, itoaB p.num = v := ⟨_, rfl⟩
  try simp only [en] at c1 c2 ⊢
  obtain ⟨d, ed⟩ : ∃ v, itoaB (p.den : Int) = v := ⟨_, rfl⟩
  try simp only [ed] at c1 c2 ⊢
  obtain ⟨m, em⟩ : ∃ v, itoaB q.num = v := ⟨_, rfl⟩
  try simp only [em] at c1 c2 ⊢
  obtain ⟨e', ee'⟩ : ∃ v, itoaB (q.den : Int) = v := ⟨_, rfl⟩
  try simp only [ee'] at c1 c2 ⊢
  have C1 := Lib.hid c1
  have C2 := Lib.hid c2
  clear c1 c2 er ev en ed em ee' hp hq
  have hb0' : Below w.heap.size w (w.alloc (Obj.cells #[Value.string n, Value.string d] 153)) := (Below.refl _ _).alloc (Nat.le_refl _) _
  have hb1' : Below w.heap.size w ((w.alloc (Obj.cells #[Value.string n, Value.string d] 153)).alloc (Obj.cells #[Value.string m, Value.string e'] 153)) := hb0'.alloc hb0'.size _
  have hb := hb1'
  clear hb0' hb1'
  have x0 : ((w.alloc (Obj.cells #[Value.string n, Value.string d] 153)).alloc (Obj.cells #[Value.string m, Value.string e'] 153)).cell? ⟨w.heap.size, 0, none⟩ = some (Value.string n) := by simp [go_sem]
  have x1 : ((w.alloc (Obj.cells #[Value.string n, Value.string d] 153)).alloc (Obj.cells #[Value.string m, Value.string e'] 153)).cell? ⟨w.heap.size, 1, none⟩ = some (Value.string d) := by simp [go_sem]
  have x2 : ((w.alloc (Obj.cells #[Value.string n, Value.string d] 153)).alloc (Obj.cells #[Value.string m, Value.string e'] 153)).cell? ⟨w.heap.size + 1, 0, none⟩ = some (Value.string m) := by simp [go_sem]
  have x3 : ((w.alloc (Obj.cells #[Value.string n, Value.string d] 153)).alloc (Obj.cells #[Value.string m, Value.string e'] 153)).cell? ⟨w.heap.size + 1, 1, none⟩ = some (Value.string e') := by simp [go_sem]
  go_enter Tryz.func109, Tryz.ntmps109
  go_upto_region 1 with fail
  obtain ⟨w1, hw1⟩ : ∃ w1, (w.alloc (Obj.cells #[Value.string n, Value.string d] 153)).alloc (Obj.cells #[Value.string m, Value.string e'] 153) = w1 := ⟨_, rfl⟩
  rw [hw1] at hb x0 x1 x2 x3 ⊢
  clear hw1
  have yx0 := cell_regrown x0
  have yx1 := cell_regrown x1
  have yx2 := cell_regrown x2
  have yx3 := cell_regrown x3
  have RR1 := Lib.hid (fun d os => Calls.regrown_of (C1.out (Sort.grow (redrawn w1 d) os) (R.below (hb.trans ((below_regrown w1 d os).mono hb.size)))))
  have RR2 := Lib.hid (fun d os => Calls.regrown_of (C2.out (Sort.grow (redrawn w1 d) os) (R.below (hb.trans ((below_regrown w1 d os).mono hb.size)))))
  refine wp_region_quiet_below (by first | assumption | kernel_rfl) (by kernel_rfl) ?_
  repeat (quiet_step (first | (with_reducible exact RR1.out _ _) | (with_reducible exact RR2.out _ _)))
  refine wpQuiet_nil ?_
  intro _ hw'
  obtain ⟨⟨dq, osq⟩, hw''⟩ := hw'
  subst hw''
  replace hb := hb.trans ((below_regrown w1 dq osq).mono hb.size)
  replace x0 := yx0 dq osq
  replace x1 := yx1 dq osq
  replace x2 := yx2 dq osq
  replace x3 := yx3 dq osq
  clear RR1 RR2 yx0 yx1 yx2 yx3
  obtain ⟨w1, hw2⟩ : ∃ w2, Sort.grow (redrawn w1 dq) osq = w2 := ⟨_, rfl⟩
  rw [hw2] at hb x0 x1 x2 x3 ⊢
  clear hw2
  go_wp2_with (first | (go_at_call 74; ((with_reducible refine (chain2 hb (C1.out _ (R.below hb))).mono ?_); clear hb; rintro e w1 ⟨rfl, hk, hb⟩; replace x0 := below_cell hk x0; replace x1 := below_cell hk x1; replace x2 := below_cell hk x2; replace x3 := below_cell hk x3; clear hk)) | (go_at_call 107; ((with_reducible refine (chain2 hb (C2.out _ (R.below hb))).mono ?_); clear hb; rintro e w1 ⟨rfl, hk, hb⟩; replace x0 := below_cell hk x0; replace x1 := below_cell hk x1; replace x2 := below_cell hk x2; replace x3 := below_cell hk x3; clear hk)))
  go_ret
  exact ⟨rfl, hb⟩
set_option maxRecDepth 100000 in
set_option maxHeartbeats 1000000 in
theorem calcSub_yes (s t : ByteArray) (x y u v : Int) (r0 : ByteArray) (h1 : ∀ w, EnvR w → Calls Tryz.prog 18 #[.string s] w fun e w' => e = .returned (.tuple #[.int .i64 x, .int .i64 y, .bool true]) ∧ Below w.heap.size w w') (h2 : ∀ w, EnvR w → Calls Tryz.prog 18 #[.string t] w fun e w' => e = .returned (.tuple #[.int .i64 u, .int .i64 v, .bool true]) ∧ Below w.heap.size w w') (h3 : ∀ w, EnvR w → Calls Tryz.prog 108 #[.agg #[.int .i64 x, .int .i64 y], .agg #[.int .i64 u, .int .i64 v]] w fun e w' => e = .returned (.tuple #[.string r0, .bool true]) ∧ Below w.heap.size w w') (w : World) (R : EnvR w) :
    Calls Tryz.prog 105 #[.string s, .string t, .func (Fn.func 108) #[] #[], .func (Fn.func 109) #[] #[]] w fun e w' => e = .returned (.string r0) ∧ Below w.heap.size w w' := by
  have c1 : ∀ w, EnvR w → Calls Tryz.prog 18 #[.string s] w fun e w' => e = .returned (.tuple #[.int .i64 x, .int .i64 y, .bool true]) ∧ Below w.heap.size w w' := fun w R => h1 w R
  have c2 : ∀ w, EnvR w → Calls Tryz.prog 18 #[.string t] w fun e w' => e = .returned (.tuple #[.int .i64 u, .int .i64 v, .bool true]) ∧ Below w.heap.size w w' := fun w R => h2 w R
  have c3 : ∀ w, EnvR w → Calls Tryz.prog 108 #[.agg #[.int .i64 x, .int .i64 y], .agg #[.int .i64 u, .int .i64 v]] w fun e w' => e = .returned (.tuple #[.string r0, .bool true]) ∧ Below w.heap.size w w' := fun w R => h3 w R
  have C1 := Lib.hid c1
  have C2 := Lib.hid c2
  have C3 := Lib.hid c3
  clear c1 c2 c3 h1 h2 h3
  have hb := Below.refl w.heap.size w
  go_enter Tryz.func105, Tryz.ntmps105
  go_wp2_with (first | (go_at_call 18; first | ((with_reducible refine (chain hb (C1.out _ (R.below hb))).mono ?_); clear hb; rintro e w1 ⟨rfl, hb⟩) | ((with_reducible refine (chain hb (C2.out _ (R.below hb))).mono ?_); clear hb; rintro e w1 ⟨rfl, hb⟩)) | (go_at_call 108; ((with_reducible refine (chain hb (C3.out _ (R.below hb))).mono ?_); clear hb; rintro e w1 ⟨rfl, hb⟩)))
  go_ret
  exact ⟨rfl, hb⟩
set_option maxRecDepth 100000 in
set_option maxHeartbeats 1000000 in
theorem calcSub_not (s t a1 a2 b1 b2 : ByteArray) (x y u v : Int) (r0 r1 : ByteArray) (h1 : ∀ w, EnvR w → Calls Tryz.prog 18 #[.string s] w fun e w' => e = .returned (.tuple #[.int .i64 x, .int .i64 y, .bool true]) ∧ Below w.heap.size w w') (h2 : ∀ w, EnvR w → Calls Tryz.prog 18 #[.string t] w fun e w' => e = .returned (.tuple #[.int .i64 u, .int .i64 v, .bool true]) ∧ Below w.heap.size w w') (h3 : ∀ w, EnvR w → Calls Tryz.prog 108 #[.agg #[.int .i64 x, .int .i64 y], .agg #[.int .i64 u, .int .i64 v]] w fun e w' => e = .returned (.tuple #[.string r0, .bool false]) ∧ Below w.heap.size w w') (h4 : ∀ w, EnvR w → Calls Tryz.prog 152 #[.string s] w fun e w' => e = .returned (.agg #[.string a1, .string a2]) ∧ Below w.heap.size w w') (h5 : ∀ w, EnvR w → Calls Tryz.prog 152 #[.string t] w fun e w' => e = .returned (.agg #[.string b1, .string b2]) ∧ Below w.heap.size w w') (h6 : ∀ w, EnvR w → Calls Tryz.prog 109 #[.agg #[.string a1, .string a2], .agg #[.string b1, .string b2]] w fun e w' => e = .returned (.string r1) ∧ Below w.heap.size w w') (w : World) (R : EnvR w) :
    Calls Tryz.prog 105 #[.string s, .string t, .func (Fn.func 108) #[] #[], .func (Fn.func 109) #[] #[]] w fun e w' => e = .returned (.string r1) ∧ Below w.heap.size w w' := by
  have c1 : ∀ w, EnvR w → Calls Tryz.prog 18 #[.string s] w fun e w' => e = .returned (.tuple #[.int .i64 x, .int .i64 y, .bool true]) ∧ Below w.heap.size w w' := fun w R => h1 w R
  have c2 : ∀ w, EnvR w → Calls Tryz.prog 18 #[.string t] w fun e w' => e = .returned (.tuple #[.int .i64 u, .int .i64 v, .bool true]) ∧ Below w.heap.size w w' := fun w R => h2 w R
  have c3 : ∀ w, EnvR w → Calls Tryz.prog 108 #[.agg #[.int .i64 x, .int .i64 y], .agg #[.int .i64 u, .int .i64 v]] w fun e w' => e = .returned (.tuple #[.string r0, .bool false]) ∧ Below w.heap.size w w' := fun w R => h3 w R
  have c4 : ∀ w, EnvR w → Calls Tryz.prog 152 #[.string s] w fun e w' => e = .returned (.agg #[.string a1, .string a2]) ∧ Below w.heap.size w w' := fun w R => h4 w R
  have c5 : ∀ w, EnvR w → Calls Tryz.prog 152 #[.string t] w fun e w' => e = .returned (.agg #[.string b1, .string b2]) ∧ Below w.heap.size w w' := fun w R => h5 w R
  have c6 : ∀ w, EnvR w → Calls Tryz.prog 109 #[.agg #[.string a1, .string a2], .agg #[.string b1, .string b2]] w fun e w' => e = .returned (.string r1) ∧ Below w.heap.size w w' := fun w R => h6 w R
  have C1 := Lib.hid c1
  have C2 := Lib.hid c2
  have C3 := Lib.hid c3
  have C4 := Lib.hid c4
  have C5 := Lib.hid c5
  have C6 := Lib.hid c6
  clear c1 c2 c3 c4 c5 c6 h1 h2 h3 h4 h5 h6
  have hb := Below.refl w.heap.size w
  go_enter Tryz.func105, Tryz.ntmps105
  go_wp2_with (first | (go_at_call 18; first | ((with_reducible refine (chain hb (C1.out _ (R.below hb))).mono ?_); clear hb; rintro e w1 ⟨rfl, hb⟩) | ((with_reducible refine (chain hb (C2.out _ (R.below hb))).mono ?_); clear hb; rintro e w1 ⟨rfl, hb⟩)) | (go_at_call 108; ((with_reducible refine (chain hb (C3.out _ (R.below hb))).mono ?_); clear hb; rintro e w1 ⟨rfl, hb⟩)) | (go_at_call 152; first | ((with_reducible refine (chain hb (C4.out _ (R.below hb))).mono ?_); clear hb; rintro e w1 ⟨rfl, hb⟩) | ((with_reducible refine (chain hb (C5.out _ (R.below hb))).mono ?_); clear hb; rintro e w1 ⟨rfl, hb⟩)) | (go_at_call 109; ((with_reducible refine (chain hb (C6.out _ (R.below hb))).mono ?_); clear hb; rintro e w1 ⟨rfl, hb⟩)))
  go_ret
  exact ⟨rfl, hb⟩
set_option maxRecDepth 100000 in
set_option maxHeartbeats 1000000 in
theorem calcSub_la (s t a1 a2 b1 b2 : ByteArray) (x y u v : Int) (k : Bool) (r1 : ByteArray) (h1 : ∀ w, EnvR w → Calls Tryz.prog 18 #[.string s] w fun e w' => e = .returned (.tuple #[.int .i64 x, .int .i64 y, .bool false]) ∧ Below w.heap.size w w') (h2 : ∀ w, EnvR w → Calls Tryz.prog 18 #[.string t] w fun e w' => e = .returned (.tuple #[.int .i64 u, .int .i64 v, .bool k]) ∧ Below w.heap.size w w') (h3 : ∀ w, EnvR w → Calls Tryz.prog 152 #[.string s] w fun e w' => e = .returned (.agg #[.string a1, .string a2]) ∧ Below w.heap.size w w') (h4 : ∀ w, EnvR w → Calls Tryz.prog 152 #[.string t] w fun e w' => e = .returned (.agg #[.string b1, .string b2]) ∧ Below w.heap.size w w') (h5 : ∀ w, EnvR w → Calls Tryz.prog 109 #[.agg #[.string a1, .string a2], .agg #[.string b1, .string b2]] w fun e w' => e = .returned (.string r1) ∧ Below w.heap.size w w') (w : World) (R : EnvR w) :
    Calls Tryz.prog 105 #[.string s, .string t, .func (Fn.func 108) #[] #[], .func (Fn.func 109) #[] #[]] w fun e w' => e = .returned (.string r1) ∧ Below w.heap.size w w' := by
  have c1 : ∀ w, EnvR w → Calls Tryz.prog 18 #[.string s] w fun e w' => e = .returned (.tuple #[.int .i64 x, .int .i64 y, .bool false]) ∧ Below w.heap.size w w' := fun w R => h1 w R
  have c2 : ∀ w, EnvR w → Calls Tryz.prog 18 #[.string t] w fun e w' => e = .returned (.tuple #[.int .i64 u, .int .i64 v, .bool k]) ∧ Below w.heap.size w w' := fun w R => h2 w R
  have c3 : ∀ w, EnvR w → Calls Tryz.prog 152 #[.string s] w fun e w' => e = .returned (.agg #[.string a1, .string a2]) ∧ Below w.heap.size w w' := fun w R => h3 w R
  have c4 : ∀ w, EnvR w → Calls Tryz.prog 152 #[.string t] w fun e w' => e = .returned (.agg #[.string b1, .string b2]) ∧ Below w.heap.size w w' := fun w R => h4 w R
  have c5 : ∀ w, EnvR w → Calls Tryz.prog 109 #[.agg #[.string a1, .string a2], .agg #[.string b1, .string b2]] w fun e w' => e = .returned (.string r1) ∧ Below w.heap.size w w' := fun w R => h5 w R
  have C1 := Lib.hid c1
  have C2 := Lib.hid c2
  have C3 := Lib.hid c3
  have C4 := Lib.hid c4
  have C5 := Lib.hid c5
  clear c1 c2 c3 c4 c5 h1 h2 h3 h4 h5
  have hb := Below.refl w.heap.size w
  go_enter Tryz.func105, Tryz.ntmps105
  go_wp2_with (first | (go_at_call 18; first | ((with_reducible refine (chain hb (C1.out _ (R.below hb))).mono ?_); clear hb; rintro e w1 ⟨rfl, hb⟩) | ((with_reducible refine (chain hb (C2.out _ (R.below hb))).mono ?_); clear hb; rintro e w1 ⟨rfl, hb⟩)) | (go_at_call 152; first | ((with_reducible refine (chain hb (C3.out _ (R.below hb))).mono ?_); clear hb; rintro e w1 ⟨rfl, hb⟩) | ((with_reducible refine (chain hb (C4.out _ (R.below hb))).mono ?_); clear hb; rintro e w1 ⟨rfl, hb⟩)) | (go_at_call 109; ((with_reducible refine (chain hb (C5.out _ (R.below hb))).mono ?_); clear hb; rintro e w1 ⟨rfl, hb⟩)))
  go_ret
  exact ⟨rfl, hb⟩
set_option maxRecDepth 100000 in
set_option maxHeartbeats 1000000 in
theorem calcSub_lb (s t a1 a2 b1 b2 : ByteArray) (x y u v : Int) (r1 : ByteArray) (h1 : ∀ w, EnvR w → Calls Tryz.prog 18 #[.string s] w fun e w' => e = .returned (.tuple #[.int .i64 x, .int .i64 y, .bool true]) ∧ Below w.heap.size w w') (h2 : ∀ w, EnvR w → Calls Tryz.prog 18 #[.string t] w fun e w' => e = .returned (.tuple #[.int .i64 u, .int .i64 v, .bool false]) ∧ Below w.heap.size w w') (h3 : ∀ w, EnvR w → Calls Tryz.prog 152 #[.string s] w fun e w' => e = .returned (.agg #[.string a1, .string a2]) ∧ Below w.heap.size w w') (h4 : ∀ w, EnvR w → Calls Tryz.prog 152 #[.string t] w fun e w' => e = .returned (.agg #[.string b1, .string b2]) ∧ Below w.heap.size w w') (h5 : ∀ w, EnvR w → Calls Tryz.prog 109 #[.agg #[.string a1, .string a2], .agg #[.string b1, .string b2]] w fun e w' => e = .returned (.string r1) ∧ Below w.heap.size w w') (w : World) (R : EnvR w) :
    Calls Tryz.prog 105 #[.string s, .string t, .func (Fn.func 108) #[] #[], .func (Fn.func 109) #[] #[]] w fun e w' => e = .returned (.string r1) ∧ Below w.heap.size w w' := by
  have c1 : ∀ w, EnvR w → Calls Tryz.prog 18 #[.string s] w fun e w' => e = .returned (.tuple #[.int .i64 x, .int .i64 y, .bool true]) ∧ Below w.heap.size w w' := fun w R => h1 w R
  have c2 : ∀ w, EnvR w → Calls Tryz.prog 18 #[.string t] w fun e w' => e = .returned (.tuple #[.int .i64 u, .int .i64 v, .bool false]) ∧ Below w.heap.size w w' := fun w R => h2 w R
  have c3 : ∀ w, EnvR w → Calls Tryz.prog 152 #[.string s] w fun e w' => e = .returned (.agg #[.string a1, .string a2]) ∧ Below w.heap.size w w' := fun w R => h3 w R
  have c4 : ∀ w, EnvR w → Calls Tryz.prog 152 #[.string t] w fun e w' => e = .returned (.agg #[.string b1, .string b2]) ∧ Below w.heap.size w w' := fun w R => h4 w R
  have c5 : ∀ w, EnvR w → Calls Tryz.prog 109 #[.agg #[.string a1, .string a2], .agg #[.string b1, .string b2]] w fun e w' => e = .returned (.string r1) ∧ Below w.heap.size w w' := fun w R => h5 w R
  have C1 := Lib.hid c1
  have C2 := Lib.hid c2
  have C3 := Lib.hid c3
  have C4 := Lib.hid c4
  have C5 := Lib.hid c5
  clear c1 c2 c3 c4 c5 h1 h2 h3 h4 h5
  have hb := Below.refl w.heap.size w
  go_enter Tryz.func105, Tryz.ntmps105
  go_wp2_with (first | (go_at_call 18; first | ((with_reducible refine (chain hb (C1.out _ (R.below hb))).mono ?_); clear hb; rintro e w1 ⟨rfl, hb⟩) | ((with_reducible refine (chain hb (C2.out _ (R.below hb))).mono ?_); clear hb; rintro e w1 ⟨rfl, hb⟩)) | (go_at_call 152; first | ((with_reducible refine (chain hb (C3.out _ (R.below hb))).mono ?_); clear hb; rintro e w1 ⟨rfl, hb⟩) | ((with_reducible refine (chain hb (C4.out _ (R.below hb))).mono ?_); clear hb; rintro e w1 ⟨rfl, hb⟩)) | (go_at_call 109; ((with_reducible refine (chain hb (C5.out _ (R.below hb))).mono ?_); clear hb; rintro e w1 ⟨rfl, hb⟩)))
  go_ret
  exact ⟨rfl, hb⟩
theorem sub_flag {p q : Rat} (h : (pf p.num q.den && pf (-q.num) p.den && pf (p.den : Int) q.den) = true) : Rat.divInt (pv p.num q.den + pv (-q.num) p.den) (pv p.den q.den) = p - q := by
  rw [Rat.sub_eq_add_neg]
  exact add_flag (p := p) (q := -q) h
theorem subInts_any (a b c d : Int) (ha0 : -1000000000000000000 < a) (ha1 : a < 1000000000000000000) (hc0 : -1000000000000000000 < c) (hc1 : c < 1000000000000000000) (hb0 : 0 < b) (hb1 : b < 1000000000000000000) (hd0 : 0 < d) (hd1 : d < 1000000000000000000) (w : World) (R : EnvR w) :
    Calls Tryz.prog 108 #[.agg #[.int .i64 a, .int .i64 b], .agg #[.int .i64 c, .int .i64 d]] w fun e w' => e = .returned (.tuple #[.string (ratB (Rat.divInt (pv a d + pv (-c) b) (pv b d))), .bool (pf a d && pf (-c) b && pf b d)]) ∧ Below w.heap.size w w' :=
  subInts_w a b c d _ _ hc0 hc1 (fun w R => addInts_any a b (-c) d ha0 ha1 (by omega) (by omega) hb0 hb1 hd0 hd1 w R) w R
theorem calcSub_any (p q : Rat) (w : World) (R : EnvR w) (hp : RL p 10000) (hq : RL q 10000) :
    Calls Tryz.prog 105 #[.string (ratB p), .string (ratB q), .func (Fn.func 108) #[] #[], .func (Fn.func 109) #[] #[]] w fun e w' => e = .returned (.string (ratB (p - q))) ∧ Below w.heap.size w w' := by
  have lp := fun w R => partsOf_any p (hp.mono (by decide)) w R
  have lq := fun w R => partsOf_any q (hq.mono (by decide)) w R
  have lo := fun w R => subLong_any p q hp hq w R
  have p0 := p.den_pos
  have q0 := q.den_pos
  by_cases h1 : shortQ p
  · have c1 := fun w R => rsmall_yes p h1 w R
    by_cases h2 : shortQ q
    · have c2 := fun w R => rsmall_yes q h2 w R
      have ci := fun w R => subInts_any p.num p.den q.num q.den h1.1 h1.2.1 h2.1 h2.2.1 (by omega) (by have := h1.2.2; omega) (by omega) (by have := h2.2.2; omega) w R
      cases hf : (pf p.num q.den && pf (-q.num) p.den && pf (p.den : Int) q.den) with
      | true =>
        rw [hf] at ci
        rw [sub_flag hf] at ci
        exact calcSub_yes _ _ _ _ _ _ _ c1 c2 ci w R
      | false =>
        rw [hf] at ci
        exact calcSub_not _ _ _ _ _ _ _ _ _ _ _ _ c1 c2 ci lp lq lo w R
    · exact calcSub_lb _ _ _ _ _ _ _ _ _ _ _ c1 (fun w R => rsmall_no q h2 w R (hq.mono (by decide))) lp lq lo w R
  · by_cases h2 : shortQ q
    · exact calcSub_la _ _ _ _ _ _ _ _ _ _ _ _ (fun w R => rsmall_no p h1 w R (hp.mono (by decide))) (fun w R => rsmall_yes q h2 w R) lp lq lo w R
    · exact calcSub_la _ _ _ _ _ _ _ _ _ _ _ _ (fun w R => rsmall_no p h1 w R (hp.mono (by decide))) (fun w R => rsmall_no q h2 w R (hq.mono (by decide))) lp lq lo w R
set_option maxRecDepth 100000 in
set_option maxHeartbeats 200000 in
theorem rsub_any (p q : Rat) (hp : RL p 10000) (hq : RL q 10000) (w : World) (R : EnvR w) :
    Calls Tryz.prog 43 #[.string (ratB p), .string (ratB q)] w fun e w' => e = .returned (.string (ratB (p - q))) ∧ Below w.heap.size w w' := by
  have c1 : ∀ w, EnvR w → Calls Tryz.prog 105 #[.string (ratB p), .string (ratB q), .func (Fn.func 108) #[] #[], .func (Fn.func 109) #[] #[]] w fun e w' => e = .returned (.string (ratB (p - q))) ∧ Below w.heap.size w w' := fun w R => calcSub_any p q w R hp hq
  obtain ⟨r, er⟩ : ∃ v, ratB (p - q) = v := ⟨_, rfl⟩
  try simp only [er] at c1 ⊢
  obtain ⟨a, ea⟩ : ∃ v, ratB p = v := ⟨_, rfl⟩
  try simp only [ea] at c1 ⊢
  obtain ⟨b, eb⟩ : ∃ v, ratB q = v := ⟨_, rfl⟩
  try simp only [eb] at c1 ⊢
  have C1 := Lib.hid c1
  clear c1 er ea eb hp hq
  have hb := Below.refl w.heap.size w
  go_enter Tryz.func43, Tryz.ntmps43
  go_wp2_with (go_at_call 105; ((with_reducible refine (chain hb (C1.out _ (R.below hb))).mono ?_); clear hb; rintro e w1 ⟨rfl, hb⟩))
  go_ret
  exact ⟨rfl, hb⟩
set_option maxRecDepth 100000 in
set_option maxHeartbeats 200000 in
theorem rmiddle_any (p q : Rat) (hp : RL p 1000) (hq : RL q 1000) (w : World) (R : EnvR w) :
    Calls Tryz.prog 50 #[.string (ratB p), .string (ratB q)] w fun e w' => e = .returned (.string (ratB ((p + q) * Rat.divInt 1 2))) ∧ Below w.heap.size w w' := by
  have c1 : ∀ w, EnvR w → Calls Tryz.prog 42 #[.string (ratB p), .string (ratB q)] w fun e w' => e = .returned (.string (ratB (p + q))) ∧ Below w.heap.size w w' := fun w R => radd_any p q (hp.mono (by decide)) (hq.mono (by decide)) w R
  have c2 : ∀ w, EnvR w → Calls Tryz.prog 52 #[.string (ratB (p + q)), .string ⟨#[49, 47, 50]⟩] w fun e w' => e = .returned (.string (ratB ((p + q) * Rat.divInt 1 2))) ∧ Below w.heap.size w w' := fun w R => by have := rmul_any (p + q) (Rat.divInt 1 2) ((RL_add (by decide) hp hq).mono (by decide)) (RL_half.mono (by decide)) w R; rwa [half_text] at this
  obtain ⟨r, er⟩ : ∃ v, ratB ((p + q) * Rat.divInt 1 2) = v := ⟨_, rfl⟩
  try simp only [er] at c1 c2 ⊢
  obtain ⟨c, ec⟩ : ∃ v, ratB (p + q) = v := ⟨_, rfl⟩
  try simp only [ec] at c1 c2 ⊢
  obtain ⟨a, ea⟩ : ∃ v, ratB p = v := ⟨_, rfl⟩
  try simp only [ea] at c1 c2 ⊢
  obtain ⟨b, eb⟩ : ∃ v, ratB q = v := ⟨_, rfl⟩
  try simp only [eb] at c1 c2 ⊢
  have C1 := Lib.hid c1
  have C2 := Lib.hid c2
  clear c1 c2 er ec ea eb hp hq
  have hb := Below.refl w.heap.size w
  go_enter Tryz.func50, Tryz.ntmps50
  go_wp2_with (first | (go_at_call 42; ((with_reducible refine (chain hb (C1.out _ (R.below hb))).mono ?_); clear hb; rintro e w1 ⟨rfl, hb⟩)) | (go_at_call 52; ((with_reducible refine (chain hb (C2.out _ (R.below hb))).mono ?_); clear hb; rintro e w1 ⟨rfl, hb⟩)))
  go_ret
  exact ⟨rfl, hb⟩
end Go.Proofs.YtgllflfifbacnaaGreatDoor.Kl
