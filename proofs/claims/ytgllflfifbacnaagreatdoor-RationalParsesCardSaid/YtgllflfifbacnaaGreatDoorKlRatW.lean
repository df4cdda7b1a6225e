/- Contracts: the reference's Parse, with what it calls given. -/
import Derived.Test.YtgllflfifbacnaaGreatDoorKlRatJ
namespace Go.Proofs.YtgllflfifbacnaaGreatDoor.Kl
open Go Go.RowKit

theorem m_of_p {x : Int} (h : (x == 43) = true) : (x == 45) = false := by
  rw [beq_iff_eq] at h; rw [beq_eq_false_iff_ne]; omega
set_option maxRecDepth 100000 in
set_option maxHeartbeats 1000000 in
theorem rp_nxf (s : ByteArray) (h0 : 0 < s.size) (hs : s.size ≤ 1000000) (hp : ((s[0].toNat : Int) == 43) = false) (hm : ((s[0].toNat : Int) == 45) = false) (c1 : (∀ w, EnvR w → Calls Tryz.prog 91 #[.string s, .string ⟨#[47, 46]⟩] w fun e w' => e = .returned (.int .i64 (-1)) ∧ Below w.heap.size w w')) (c2 : (∀ w, EnvR w → Calls Tryz.prog 92 #[.string s] w fun e w' => e = .returned (.bool false) ∧ Below w.heap.size w w')) (w : World) (R : EnvR w) :
    Calls Tryz.prog 29 #[.string s] w fun e w' => e = .returned (.tuple #[.string ⟨#[]⟩, .int .i64 15]) ∧ Below w.heap.size w w' := by
  have C1 := Lib.hid c1
  have C2 := Lib.hid c2
  clear c1 c2
  have h0' : (0 : Int) < (s.size : Int) := by omega
  have he := eqnil_false s h0
  have he2 := empty_false s h0
  have hb := Below.refl w.heap.size w
  go_enter Tryz.func29, Tryz.ntmps29
  go_wp2_with (first | (go_at_call 91; ((with_reducible refine (chain hb (C1.out _ (R.below hb))).mono ?_); clear hb; rintro e w1 ⟨rfl, hb⟩)) | (go_at_call 92; ((with_reducible refine (chain hb (C2.out _ (R.below hb))).mono ?_); clear hb; rintro e w1 ⟨rfl, hb⟩)))
  go_ret2
  exact ⟨rfl, hb⟩
set_option maxRecDepth 100000 in
set_option maxHeartbeats 1000000 in
theorem rp_pxf (s : ByteArray) (h0 : 0 < s.size) (hs : s.size ≤ 1000000) (T : ByteArray) (_hT : T.size ≤ 1000000) (hx : s.extract 1 s.size = T) (hp : ((s[0].toNat : Int) == 43) = true) (_hm : ((s[0].toNat : Int) == 45) = false) (c1 : (∀ w, EnvR w → Calls Tryz.prog 91 #[.string T, .string ⟨#[47, 46]⟩] w fun e w' => e = .returned (.int .i64 (-1)) ∧ Below w.heap.size w w')) (c2 : (∀ w, EnvR w → Calls Tryz.prog 92 #[.string T] w fun e w' => e = .returned (.bool false) ∧ Below w.heap.size w w')) (w : World) (R : EnvR w) :
    Calls Tryz.prog 29 #[.string s] w fun e w' => e = .returned (.tuple #[.string ⟨#[]⟩, .int .i64 15]) ∧ Below w.heap.size w w' := by
  have C1 := Lib.hid c1
  have C2 := Lib.hid c2
  clear c1 c2
  have h0' : (0 : Int) < (s.size : Int) := by omega
  have he := eqnil_false s h0
  have he2 := empty_false s h0
  have hb := Below.refl w.heap.size w
  go_enter Tryz.func29, Tryz.ntmps29
  go_wp2_with (first | (go_at_call 91; ((with_reducible refine (chain hb (C1.out _ (R.below hb))).mono ?_); clear hb; rintro e w1 ⟨rfl, hb⟩)) | (go_at_call 92; ((with_reducible refine (chain hb (C2.out _ (R.below hb))).mono ?_); clear hb; rintro e w1 ⟨rfl, hb⟩)))
  go_ret2
  exact ⟨rfl, hb⟩
set_option maxRecDepth 100000 in
set_option maxHeartbeats 1000000 in
theorem rp_mxf (s : ByteArray) (h0 : 0 < s.size) (hs : s.size ≤ 1000000) (T : ByteArray) (_hT : T.size ≤ 1000000) (hx : s.extract 1 s.size = T) (hp : ((s[0].toNat : Int) == 43) = false) (hm : ((s[0].toNat : Int) == 45) = true) (c1 : (∀ w, EnvR w → Calls Tryz.prog 91 #[.string T, .string ⟨#[47, 46]⟩] w fun e w' => e = .returned (.int .i64 (-1)) ∧ Below w.heap.size w w')) (c2 : (∀ w, EnvR w → Calls Tryz.prog 92 #[.string T] w fun e w' => e = .returned (.bool false) ∧ Below w.heap.size w w')) (w : World) (R : EnvR w) :
    Calls Tryz.prog 29 #[.string s] w fun e w' => e = .returned (.tuple #[.string ⟨#[]⟩, .int .i64 15]) ∧ Below w.heap.size w w' := by
  have C1 := Lib.hid c1
  have C2 := Lib.hid c2
  clear c1 c2
  have h0' : (0 : Int) < (s.size : Int) := by omega
  have he := eqnil_false s h0
  have he2 := empty_false s h0
  have hb := Below.refl w.heap.size w
  go_enter Tryz.func29, Tryz.ntmps29
  go_wp2_with (first | (go_at_call 91; ((with_reducible refine (chain hb (C1.out _ (R.below hb))).mono ?_); clear hb; rintro e w1 ⟨rfl, hb⟩)) | (go_at_call 92; ((with_reducible refine (chain hb (C2.out _ (R.below hb))).mono ?_); clear hb; rintro e w1 ⟨rfl, hb⟩)))
  go_ret2
  exact ⟨rfl, hb⟩
set_option maxRecDepth 100000 in
set_option maxHeartbeats 1000000 in
theorem rp_nxl (s : ByteArray) (h0 : 0 < s.size) (hs : s.size ≤ 1000000) (hp : ((s[0].toNat : Int) == 43) = false) (hm : ((s[0].toNat : Int) == 45) = false) (hl : 200 < (s.size : Int)) (c1 : (∀ w, EnvR w → Calls Tryz.prog 91 #[.string s, .string ⟨#[47, 46]⟩] w fun e w' => e = .returned (.int .i64 (-1)) ∧ Below w.heap.size w w')) (c2 : (∀ w, EnvR w → Calls Tryz.prog 92 #[.string s] w fun e w' => e = .returned (.bool true) ∧ Below w.heap.size w w')) (w : World) (R : EnvR w) :
    Calls Tryz.prog 29 #[.string s] w fun e w' => e = .returned (.tuple #[.string ⟨#[]⟩, .int .i64 16]) ∧ Below w.heap.size w w' := by
  have C1 := Lib.hid c1
  have C2 := Lib.hid c2
  clear c1 c2
  have h0' : (0 : Int) < (s.size : Int) := by omega
  have he := eqnil_false s h0
  have he2 := empty_false s h0
  have hb := Below.refl w.heap.size w
  go_enter Tryz.func29, Tryz.ntmps29
  go_wp2_with (first | (go_at_call 91; ((with_reducible refine (chain hb (C1.out _ (R.below hb))).mono ?_); clear hb; rintro e w1 ⟨rfl, hb⟩)) | (go_at_call 92; ((with_reducible refine (chain hb (C2.out _ (R.below hb))).mono ?_); clear hb; rintro e w1 ⟨rfl, hb⟩)))
  go_ret2
  exact ⟨rfl, hb⟩
set_option maxRecDepth 100000 in
set_option maxHeartbeats 1000000 in
theorem rp_pxl (s : ByteArray) (h0 : 0 < s.size) (hs : s.size ≤ 1000000) (T : ByteArray) (_hT : T.size ≤ 1000000) (hx : s.extract 1 s.size = T) (hp : ((s[0].toNat : Int) == 43) = true) (_hm : ((s[0].toNat : Int) == 45) = false) (hl : 200 < (s.size : Int)) (c1 : (∀ w, EnvR w → Calls Tryz.prog 91 #[.string T, .string ⟨#[47, 46]⟩] w fun e w' => e = .returned (.int .i64 (-1)) ∧ Below w.heap.size w w')) (c2 : (∀ w, EnvR w → Calls Tryz.prog 92 #[.string T] w fun e w' => e = .returned (.bool true) ∧ Below w.heap.size w w')) (w : World) (R : EnvR w) :
    Calls Tryz.prog 29 #[.string s] w fun e w' => e = .returned (.tuple #[.string ⟨#[]⟩, .int .i64 16]) ∧ Below w.heap.size w w' := by
  have C1 := Lib.hid c1
  have C2 := Lib.hid c2
  clear c1 c2
  have h0' : (0 : Int) < (s.size : Int) := by omega
  have he := eqnil_false s h0
  have he2 := empty_false s h0
  have hb := Below.refl w.heap.size w
  go_enter Tryz.func29, Tryz.ntmps29
  go_wp2_with (first | (go_at_call 91; ((with_reducible refine (chain hb (C1.out _ (R.below hb))).mono ?_); clear hb; rintro e w1 ⟨rfl, hb⟩)) | (go_at_call 92; ((with_reducible refine (chain hb (C2.out _ (R.below hb))).mono ?_); clear hb; rintro e w1 ⟨rfl, hb⟩)))
  go_ret2
  exact ⟨rfl, hb⟩
set_option maxRecDepth 100000 in
set_option maxHeartbeats 1000000 in
theorem rp_mxl (s : ByteArray) (h0 : 0 < s.size) (hs : s.size ≤ 1000000) (T : ByteArray) (_hT : T.size ≤ 1000000) (hx : s.extract 1 s.size = T) (hp : ((s[0].toNat : Int) == 43) = false) (hm : ((s[0].toNat : Int) == 45) = true) (hl : 200 < (s.size : Int)) (c1 : (∀ w, EnvR w → Calls Tryz.prog 91 #[.string T, .string ⟨#[47, 46]⟩] w fun e w' => e = .returned (.int .i64 (-1)) ∧ Below w.heap.size w w')) (c2 : (∀ w, EnvR w → Calls Tryz.prog 92 #[.string T] w fun e w' => e = .returned (.bool true) ∧ Below w.heap.size w w')) (w : World) (R : EnvR w) :
    Calls Tryz.prog 29 #[.string s] w fun e w' => e = .returned (.tuple #[.string ⟨#[]⟩, .int .i64 16]) ∧ Below w.heap.size w w' := by
  have C1 := Lib.hid c1
  have C2 := Lib.hid c2
  clear c1 c2
  have h0' : (0 : Int) < (s.size : Int) := by omega
  have he := eqnil_false s h0
  have he2 := empty_false s h0
  have hb := Below.refl w.heap.size w
  go_enter Tryz.func29, Tryz.ntmps29
  go_wp2_with (first | (go_at_call 91; ((with_reducible refine (chain hb (C1.out _ (R.below hb))).mono ?_); clear hb; rintro e w1 ⟨rfl, hb⟩)) | (go_at_call 92; ((with_reducible refine (chain hb (C2.out _ (R.below hb))).mono ?_); clear hb; rintro e w1 ⟨rfl, hb⟩)))
  go_ret2
  exact ⟨rfl, hb⟩
set_option maxRecDepth 100000 in
set_option maxHeartbeats 1000000 in
theorem rp_nxy (s : ByteArray) (h0 : 0 < s.size) (hs : s.size ≤ 1000000) (hp : ((s[0].toNat : Int) == 43) = false) (hm : ((s[0].toNat : Int) == 45) = false) (m _m2 res : ByteArray) (hl : (s.size : Int) ≤ 200) (c1 : (∀ w, EnvR w → Calls Tryz.prog 91 #[.string s, .string ⟨#[47, 46]⟩] w fun e w' => e = .returned (.int .i64 (-1)) ∧ Below w.heap.size w w')) (c2 : (∀ w, EnvR w → Calls Tryz.prog 92 #[.string s] w fun e w' => e = .returned (.bool true) ∧ Below w.heap.size w w')) (c3 : (∀ w, EnvR w → Calls Tryz.prog 93 #[.string s] w fun e w' => e = .returned (.string m) ∧ Below w.heap.size w w')) (c4 : (∀ w, EnvR w → Calls Tryz.prog 26 #[.string m, .string ⟨#[49]⟩] w fun e w' => e = .returned (.string res) ∧ Below w.heap.size w w')) (w : World) (R : EnvR w) :
    Calls Tryz.prog 29 #[.string s] w fun e w' => e = .returned (.tuple #[.string res, .int .i64 0]) ∧ Below w.heap.size w w' := by
  have C1 := Lib.hid c1
  have C2 := Lib.hid c2
  have C3 := Lib.hid c3
  have C4 := Lib.hid c4
  clear c1 c2 c3 c4
  have h0' : (0 : Int) < (s.size : Int) := by omega
  have he := eqnil_false s h0
  have he2 := empty_false s h0
  have hb := Below.refl w.heap.size w
  go_enter Tryz.func29, Tryz.ntmps29
  go_wp2_with (first | (go_at_call 91; ((with_reducible refine (chain hb (C1.out _ (R.below hb))).mono ?_); clear hb; rintro e w1 ⟨rfl, hb⟩)) | (go_at_call 92; ((with_reducible refine (chain hb (C2.out _ (R.below hb))).mono ?_); clear hb; rintro e w1 ⟨rfl, hb⟩)) | (go_at_call 93; ((with_reducible refine (chain hb (C3.out _ (R.below hb))).mono ?_); clear hb; rintro e w1 ⟨rfl, hb⟩)) | (go_at_call 26; ((with_reducible refine (chain hb (C4.out _ (R.below hb))).mono ?_); clear hb; rintro e w1 ⟨rfl, hb⟩)))
  go_ret2
  exact ⟨rfl, hb⟩
set_option maxRecDepth 100000 in
set_option maxHeartbeats 1000000 in
theorem rp_pxy (s : ByteArray) (h0 : 0 < s.size) (hs : s.size ≤ 1000000) (T : ByteArray) (_hT : T.size ≤ 1000000) (hx : s.extract 1 s.size = T) (hp : ((s[0].toNat : Int) == 43) = true) (hm : ((s[0].toNat : Int) == 45) = false) (m _m2 res : ByteArray) (hl : (s.size : Int) ≤ 200) (c1 : (∀ w, EnvR w → Calls Tryz.prog 91 #[.string T, .string ⟨#[47, 46]⟩] w fun e w' => e = .returned (.int .i64 (-1)) ∧ Below w.heap.size w w')) (c2 : (∀ w, EnvR w → Calls Tryz.prog 92 #[.string T] w fun e w' => e = .returned (.bool true) ∧ Below w.heap.size w w')) (c3 : (∀ w, EnvR w → Calls Tryz.prog 93 #[.string T] w fun e w' => e = .returned (.string m) ∧ Below w.heap.size w w')) (c4 : (∀ w, EnvR w → Calls Tryz.prog 26 #[.string m, .string ⟨#[49]⟩] w fun e w' => e = .returned (.string res) ∧ Below w.heap.size w w')) (w : World) (R : EnvR w) :
    Calls Tryz.prog 29 #[.string s] w fun e w' => e = .returned (.tuple #[.string res, .int .i64 0]) ∧ Below w.heap.size w w' := by
  have C1 := Lib.hid c1
  have C2 := Lib.hid c2
  have C3 := Lib.hid c3
  have C4 := Lib.hid c4
  clear c1 c2 c3 c4
  have h0' : (0 : Int) < (s.size : Int) := by omega
  have he := eqnil_false s h0
  have he2 := empty_false s h0
  have hb := Below.refl w.heap.size w
  go_enter Tryz.func29, Tryz.ntmps29
  go_wp2_with (first | (go_at_call 91; ((with_reducible refine (chain hb (C1.out _ (R.below hb))).mono ?_); clear hb; rintro e w1 ⟨rfl, hb⟩)) | (go_at_call 92; ((with_reducible refine (chain hb (C2.out _ (R.below hb))).mono ?_); clear hb; rintro e w1 ⟨rfl, hb⟩)) | (go_at_call 93; ((with_reducible refine (chain hb (C3.out _ (R.below hb))).mono ?_); clear hb; rintro e w1 ⟨rfl, hb⟩)) | (go_at_call 26; ((with_reducible refine (chain hb (C4.out _ (R.below hb))).mono ?_); clear hb; rintro e w1 ⟨rfl, hb⟩)))
  go_ret2
  exact ⟨rfl, hb⟩
set_option maxRecDepth 100000 in
set_option maxHeartbeats 1000000 in
theorem rp_mxy (s : ByteArray) (h0 : 0 < s.size) (hs : s.size ≤ 1000000) (T : ByteArray) (_hT : T.size ≤ 1000000) (hx : s.extract 1 s.size = T) (hp : ((s[0].toNat : Int) == 43) = false) (hm : ((s[0].toNat : Int) == 45) = true) (m m2 res : ByteArray) (hl : (s.size : Int) ≤ 200) (c1 : (∀ w, EnvR w → Calls Tryz.prog 91 #[.string T, .string ⟨#[47, 46]⟩] w fun e w' => e = .returned (.int .i64 (-1)) ∧ Below w.heap.size w w')) (c2 : (∀ w, EnvR w → Calls Tryz.prog 92 #[.string T] w fun e w' => e = .returned (.bool true) ∧ Below w.heap.size w w')) (c3 : (∀ w, EnvR w → Calls Tryz.prog 93 #[.string T] w fun e w' => e = .returned (.string m) ∧ Below w.heap.size w w')) (c4 : (∀ w, EnvR w → Calls Tryz.prog 80 #[.string m] w fun e w' => e = .returned (.string m2) ∧ Below w.heap.size w w')) (c5 : (∀ w, EnvR w → Calls Tryz.prog 26 #[.string m2, .string ⟨#[49]⟩] w fun e w' => e = .returned (.string res) ∧ Below w.heap.size w w')) (w : World) (R : EnvR w) :
    Calls Tryz.prog 29 #[.string s] w fun e w' => e = .returned (.tuple #[.string res, .int .i64 0]) ∧ Below w.heap.size w w' := by
  have C1 := Lib.hid c1
  have C2 := Lib.hid c2
  have C3 := Lib.hid c3
  have C4 := Lib.hid c4
  have C5 := Lib.hid c5
  clear c1 c2 c3 c4 c5
  have h0' : (0 : Int) < (s.size : Int) := by omega
  have he := eqnil_false s h0
  have he2 := empty_false s h0
  have hb := Below.refl w.heap.size w
  go_enter Tryz.func29, Tryz.ntmps29
  go_wp2_with (first | (go_at_call 91; ((with_reducible refine (chain hb (C1.out _ (R.below hb))).mono ?_); clear hb; rintro e w1 ⟨rfl, hb⟩)) | (go_at_call 92; ((with_reducible refine (chain hb (C2.out _ (R.below hb))).mono ?_); clear hb; rintro e w1 ⟨rfl, hb⟩)) | (go_at_call 93; ((with_reducible refine (chain hb (C3.out _ (R.below hb))).mono ?_); clear hb; rintro e w1 ⟨rfl, hb⟩)) | (go_at_call 80; ((with_reducible refine (chain hb (C4.out _ (R.below hb))).mono ?_); clear hb; rintro e w1 ⟨rfl, hb⟩)) | (go_at_call 26; ((with_reducible refine (chain hb (C5.out _ (R.below hb))).mono ?_); clear hb; rintro e w1 ⟨rfl, hb⟩)))
  go_ret2
  exact ⟨rfl, hb⟩
set_option maxRecDepth 100000 in
set_option maxHeartbeats 1000000 in
theorem rp_nsa (s : ByteArray) (h0 : 0 < s.size) (hs : s.size ≤ 1000000) (hp : ((s[0].toNat : Int) == 43) = false) (hm : ((s[0].toNat : Int) == 45) = false) (a r : ByteArray) (k : Nat) (hk : k < s.size) (ha : s.extract 0 k = a) (hr : s.extract (k + 1) s.size = r) (_has : a.size ≤ 1000000) (_hrs : r.size ≤ 1000000) (c1 : (∀ w, EnvR w → Calls Tryz.prog 91 #[.string s, .string ⟨#[47, 46]⟩] w fun e w' => e = .returned (.int .i64 (k : Int)) ∧ Below w.heap.size w w')) (c2 : (∀ w, EnvR w → Calls Tryz.prog 92 #[.string a] w fun e w' => e = .returned (.bool false) ∧ Below w.heap.size w w')) (w : World) (R : EnvR w) :
    Calls Tryz.prog 29 #[.string s] w fun e w' => e = .returned (.tuple #[.string ⟨#[]⟩, .int .i64 15]) ∧ Below w.heap.size w w' := by
  have C1 := Lib.hid c1
  have C2 := Lib.hid c2
  clear c1 c2
  have h0' : (0 : Int) < (s.size : Int) := by omega
  have he := eqnil_false s h0
  have he2 := empty_false s h0
  have hk' : (k : Int) < (s.size : Int) := by omega
  have hb := Below.refl w.heap.size w
  go_enter Tryz.func29, Tryz.ntmps29
  go_wp2_with (first | (go_at_call 91; ((with_reducible refine (chain hb (C1.out _ (R.below hb))).mono ?_); clear hb; rintro e w1 ⟨rfl, hb⟩)) | (go_at_call 92; ((with_reducible refine (chain hb (C2.out _ (R.below hb))).mono ?_); clear hb; rintro e w1 ⟨rfl, hb⟩)))
  go_quiet (fail)
  replace hb := hb.trans ((below_drewN w1 nq).mono hb.size)
  obtain ⟨w1, hw2⟩ : ∃ w2, w1.drewN nq = w2 := ⟨_, rfl⟩
  rw [hw2] at hb ⊢
  clear hw2
  go_wp2_with (first | (go_at_call 91; ((with_reducible refine (chain hb (C1.out _ (R.below hb))).mono ?_); clear hb; rintro e w1 ⟨rfl, hb⟩)) | (go_at_call 92; ((with_reducible refine (chain hb (C2.out _ (R.below hb))).mono ?_); clear hb; rintro e w1 ⟨rfl, hb⟩)))
  go_ret2
  exact ⟨rfl, hb⟩
set_option maxRecDepth 100000 in
set_option maxHeartbeats 1000000 in
theorem rp_psa (s : ByteArray) (h0 : 0 < s.size) (hs : s.size ≤ 1000000) (T : ByteArray) (hT : T.size ≤ 1000000) (hx : s.extract 1 s.size = T) (hp : ((s[0].toNat : Int) == 43) = true) (_hm : ((s[0].toNat : Int) == 45) = false) (a r : ByteArray) (k : Nat) (hk : k < T.size) (ha : T.extract 0 k = a) (hr : T.extract (k + 1) T.size = r) (_has : a.size ≤ 1000000) (_hrs : r.size ≤ 1000000) (c1 : (∀ w, EnvR w → Calls Tryz.prog 91 #[.string T, .string ⟨#[47, 46]⟩] w fun e w' => e = .returned (.int .i64 (k : Int)) ∧ Below w.heap.size w w')) (c2 : (∀ w, EnvR w → Calls Tryz.prog 92 #[.string a] w fun e w' => e = .returned (.bool false) ∧ Below w.heap.size w w')) (w : World) (R : EnvR w) :
    Calls Tryz.prog 29 #[.string s] w fun e w' => e = .returned (.tuple #[.string ⟨#[]⟩, .int .i64 15]) ∧ Below w.heap.size w w' := by
  have C1 := Lib.hid c1
  have C2 := Lib.hid c2
  clear c1 c2
  have h0' : (0 : Int) < (s.size : Int) := by omega
  have he := eqnil_false s h0
  have he2 := empty_false s h0
  have hk' : (k : Int) < (T.size : Int) := by omega
  have hb := Below.refl w.heap.size w
  go_enter Tryz.func29, Tryz.ntmps29
  go_wp2_with (first | (go_at_call 91; ((with_reducible refine (chain hb (C1.out _ (R.below hb))).mono ?_); clear hb; rintro e w1 ⟨rfl, hb⟩)) | (go_at_call 92; ((with_reducible refine (chain hb (C2.out _ (R.below hb))).mono ?_); clear hb; rintro e w1 ⟨rfl, hb⟩)))
  go_quiet (fail)
  replace hb := hb.trans ((below_drewN w1 nq).mono hb.size)
  obtain ⟨w1, hw2⟩ : ∃ w2, w1.drewN nq = w2 := ⟨_, rfl⟩
  rw [hw2] at hb ⊢
  clear hw2
  go_wp2_with (first | (go_at_call 91; ((with_reducible refine (chain hb (C1.out _ (R.below hb))).mono ?_); clear hb; rintro e w1 ⟨rfl, hb⟩)) | (go_at_call 92; ((with_reducible refine (chain hb (C2.out _ (R.below hb))).mono ?_); clear hb; rintro e w1 ⟨rfl, hb⟩)))
  go_ret2
  exact ⟨rfl, hb⟩
set_option maxRecDepth 100000 in
set_option maxHeartbeats 1000000 in
theorem rp_msa (s : ByteArray) (h0 : 0 < s.size) (hs : s.size ≤ 1000000) (T : ByteArray) (hT : T.size ≤ 1000000) (hx : s.extract 1 s.size = T) (hp : ((s[0].toNat : Int) == 43) = false) (hm : ((s[0].toNat : Int) == 45) = true) (a r : ByteArray) (k : Nat) (hk : k < T.size) (ha : T.extract 0 k = a) (hr : T.extract (k + 1) T.size = r) (_has : a.size ≤ 1000000) (_hrs : r.size ≤ 1000000) (c1 : (∀ w, EnvR w → Calls Tryz.prog 91 #[.string T, .string ⟨#[47, 46]⟩] w fun e w' => e = .returned (.int .i64 (k : Int)) ∧ Below w.heap.size w w')) (c2 : (∀ w, EnvR w → Calls Tryz.prog 92 #[.string a] w fun e w' => e = .returned (.bool false) ∧ Below w.heap.size w w')) (w : World) (R : EnvR w) :
    Calls Tryz.prog 29 #[.string s] w fun e w' => e = .returned (.tuple #[.string ⟨#[]⟩, .int .i64 15]) ∧ Below w.heap.size w w' := by
  have C1 := Lib.hid c1
  have C2 := Lib.hid c2
  clear c1 c2
  have h0' : (0 : Int) < (s.size : Int) := by omega
  have he := eqnil_false s h0
  have he2 := empty_false s h0
  have hk' : (k : Int) < (T.size : Int) := by omega
  have hb := Below.refl w.heap.size w
  go_enter Tryz.func29, Tryz.ntmps29
  go_wp2_with (first | (go_at_call 91; ((with_reducible refine (chain hb (C1.out _ (R.below hb))).mono ?_); clear hb; rintro e w1 ⟨rfl, hb⟩)) | (go_at_call 92; ((with_reducible refine (chain hb (C2.out _ (R.below hb))).mono ?_); clear hb; rintro e w1 ⟨rfl, hb⟩)))
  go_quiet (fail)
  replace hb := hb.trans ((below_drewN w1 nq).mono hb.size)
  obtain ⟨w1, hw2⟩ : ∃ w2, w1.drewN nq = w2 := ⟨_, rfl⟩
  rw [hw2] at hb ⊢
  clear hw2
  go_wp2_with (first | (go_at_call 91; ((with_reducible refine (chain hb (C1.out _ (R.below hb))).mono ?_); clear hb; rintro e w1 ⟨rfl, hb⟩)) | (go_at_call 92; ((with_reducible refine (chain hb (C2.out _ (R.below hb))).mono ?_); clear hb; rintro e w1 ⟨rfl, hb⟩)))
  go_ret2
  exact ⟨rfl, hb⟩
set_option maxRecDepth 100000 in
set_option maxHeartbeats 1000000 in
theorem rp_nsb (s : ByteArray) (h0 : 0 < s.size) (hs : s.size ≤ 1000000) (hp : ((s[0].toNat : Int) == 43) = false) (hm : ((s[0].toNat : Int) == 45) = false) (a r : ByteArray) (k : Nat) (hk : k < s.size) (ha : s.extract 0 k = a) (hr : s.extract (k + 1) s.size = r) (_has : a.size ≤ 1000000) (_hrs : r.size ≤ 1000000) (c1 : (∀ w, EnvR w → Calls Tryz.prog 91 #[.string s, .string ⟨#[47, 46]⟩] w fun e w' => e = .returned (.int .i64 (k : Int)) ∧ Below w.heap.size w w')) (c2 : (∀ w, EnvR w → Calls Tryz.prog 92 #[.string a] w fun e w' => e = .returned (.bool true) ∧ Below w.heap.size w w')) (c3 : (∀ w, EnvR w → Calls Tryz.prog 92 #[.string r] w fun e w' => e = .returned (.bool false) ∧ Below w.heap.size w w')) (w : World) (R : EnvR w) :
    Calls Tryz.prog 29 #[.string s] w fun e w' => e = .returned (.tuple #[.string ⟨#[]⟩, .int .i64 15]) ∧ Below w.heap.size w w' := by
  have C1 := Lib.hid c1
  have C2 := Lib.hid c2
  have C3 := Lib.hid c3
  clear c1 c2 c3
  have h0' : (0 : Int) < (s.size : Int) := by omega
  have he := eqnil_false s h0
  have he2 := empty_false s h0
  have hk' : (k : Int) < (s.size : Int) := by omega
  have hb := Below.refl w.heap.size w
  go_enter Tryz.func29, Tryz.ntmps29
  go_wp2_with (first | (go_at_call 91; ((with_reducible refine (chain hb (C1.out _ (R.below hb))).mono ?_); clear hb; rintro e w1 ⟨rfl, hb⟩)) | (go_at_call 92; first | ((with_reducible refine (chain hb (C2.out _ (R.below hb))).mono ?_); clear hb; rintro e w1 ⟨rfl, hb⟩) | ((with_reducible refine (chain hb (C3.out _ (R.below hb))).mono ?_); clear hb; rintro e w1 ⟨rfl, hb⟩)))
  go_quiet (fail)
  replace hb := hb.trans ((below_drewN w1 nq).mono hb.size)
  obtain ⟨w1, hw2⟩ : ∃ w2, w1.drewN nq = w2 := ⟨_, rfl⟩
  rw [hw2] at hb ⊢
  clear hw2
  go_wp2_with (first | (go_at_call 91; ((with_reducible refine (chain hb (C1.out _ (R.below hb))).mono ?_); clear hb; rintro e w1 ⟨rfl, hb⟩)) | (go_at_call 92; first | ((with_reducible refine (chain hb (C2.out _ (R.below hb))).mono ?_); clear hb; rintro e w1 ⟨rfl, hb⟩) | ((with_reducible refine (chain hb (C3.out _ (R.below hb))).mono ?_); clear hb; rintro e w1 ⟨rfl, hb⟩)))
  go_ret2
  exact ⟨rfl, hb⟩
set_option maxRecDepth 100000 in
set_option maxHeartbeats 1000000 in
theorem rp_psb (s : ByteArray) (h0 : 0 < s.size) (hs : s.size ≤ 1000000) (T : ByteArray) (hT : T.size ≤ 1000000) (hx : s.extract 1 s.size = T) (hp : ((s[0].toNat : Int) == 43) = true) (_hm : ((s[0].toNat : Int) == 45) = false) (a r : ByteArray) (k : Nat) (hk : k < T.size) (ha : T.extract 0 k = a) (hr : T.extract (k + 1) T.size = r) (_has : a.size ≤ 1000000) (_hrs : r.size ≤ 1000000) (c1 : (∀ w, EnvR w → Calls Tryz.prog 91 #[.string T, .string ⟨#[47, 46]⟩] w fun e w' => e = .returned (.int .i64 (k : Int)) ∧ Below w.heap.size w w')) (c2 : (∀ w, EnvR w → Calls Tryz.prog 92 #[.string a] w fun e w' => e = .returned (.bool true) ∧ Below w.heap.size w w')) (c3 : (∀ w, EnvR w → Calls Tryz.prog 92 #[.string r] w fun e w' => e = .returned (.bool false) ∧ Below w.heap.size w w')) (w : World) (R : EnvR w) :
    Calls Tryz.prog 29 #[.string s] w fun e w' => e = .returned (.tuple #[.string ⟨#[]⟩, .int .i64 15]) ∧ Below w.heap.size w w' := by
  have C1 := Lib.hid c1
  have C2 := Lib.hid c2
  have C3 := Lib.hid c3
  clear c1 c2 c3
  have h0' : (0 : Int) < (s.size : Int) := by omega
  have he := eqnil_false s h0
  have he2 := empty_false s h0
  have hk' : (k : Int) < (T.size : Int) := by omega
  have hb := Below.refl w.heap.size w
  go_enter Tryz.func29, Tryz.ntmps29
  go_wp2_with (first | (go_at_call 91; ((with_reducible refine (chain hb (C1.out _ (R.below hb))).mono ?_); clear hb; rintro e w1 ⟨rfl, hb⟩)) | (go_at_call 92; first | ((with_reducible refine (chain hb (C2.out _ (R.below hb))).mono ?_); clear hb; rintro e w1 ⟨rfl, hb⟩) | ((with_reducible refine (chain hb (C3.out _ (R.below hb))).mono ?_); clear hb; rintro e w1 ⟨rfl, hb⟩)))
  go_quiet (fail)
  replace hb := hb.trans ((below_drewN w1 nq).mono hb.size)
  obtain ⟨w1, hw2⟩ : ∃ w2, w1.drewN nq = w2 := ⟨_, rfl⟩
  rw [hw2] at hb ⊢
  clear hw2
  go_wp2_with (first | (go_at_call 91; ((with_reducible refine (chain hb (C1.out _ (R.below hb))).mono ?_); clear hb; rintro e w1 ⟨rfl, hb⟩)) | (go_at_call 92; first | ((with_reducible refine (chain hb (C2.out _ (R.below hb))).mono ?_); clear hb; rintro e w1 ⟨rfl, hb⟩) | ((with_reducible refine (chain hb (C3.out _ (R.below hb))).mono ?_); clear hb; rintro e w1 ⟨rfl, hb⟩)))
  go_ret2
  exact ⟨rfl, hb⟩
set_option maxRecDepth 100000 in
set_option maxHeartbeats 1000000 in
theorem rp_msb (s : ByteArray) (h0 : 0 < s.size) (hs : s.size ≤ 1000000) (T : ByteArray) (hT : T.size ≤ 1000000) (hx : s.extract 1 s.size = T) (hp : ((s[0].toNat : Int) == 43) = false) (hm : ((s[0].toNat : Int) == 45) = true) (a r : ByteArray) (k : Nat) (hk : k < T.size) (ha : T.extract 0 k = a) (hr : T.extract (k + 1) T.size = r) (_has : a.size ≤ 1000000) (_hrs : r.size ≤ 1000000) (c1 : (∀ w, EnvR w → Calls Tryz.prog 91 #[.string T, .string ⟨#[47, 46]⟩] w fun e w' => e = .returned (.int .i64 (k : Int)) ∧ Below w.heap.size w w')) (c2 : (∀ w, EnvR w → Calls Tryz.prog 92 #[.string a] w fun e w' => e = .returned (.bool true) ∧ Below w.heap.size w w')) (c3 : (∀ w, EnvR w → Calls Tryz.prog 92 #[.string r] w fun e w' => e = .returned (.bool false) ∧ Below w.heap.size w w')) (w : World) (R : EnvR w) :
    Calls Tryz.prog 29 #[.string s] w fun e w' => e = .returned (.tuple #[.string ⟨#[]⟩, .int .i64 15]) ∧ Below w.heap.size w w' := by
  have C1 := Lib.hid c1
  have C2 := Lib.hid c2
  have C3 := Lib.hid c3
  clear c1 c2 c3
  have h0' : (0 : Int) < (s.size : Int) := by omega
  have he := eqnil_false s h0
  have he2 := empty_false s h0
  have hk' : (k : Int) < (T.size : Int) := by omega
  have hb := Below.refl w.heap.size w
  go_enter Tryz.func29, Tryz.ntmps29
  go_wp2_with (first | (go_at_call 91; ((with_reducible refine (chain hb (C1.out _ (R.below hb))).mono ?_); clear hb; rintro e w1 ⟨rfl, hb⟩)) | (go_at_call 92; first | ((with_reducible refine (chain hb (C2.out _ (R.below hb))).mono ?_); clear hb; rintro e w1 ⟨rfl, hb⟩) | ((with_reducible refine (chain hb (C3.out _ (R.below hb))).mono ?_); clear hb; rintro e w1 ⟨rfl, hb⟩)))
  go_quiet (fail)
  replace hb := hb.trans ((below_drewN w1 nq).mono hb.size)
  obtain ⟨w1, hw2⟩ : ∃ w2, w1.drewN nq = w2 := ⟨_, rfl⟩
  rw [hw2] at hb ⊢
  clear hw2
  go_wp2_with (first | (go_at_call 91; ((with_reducible refine (chain hb (C1.out _ (R.below hb))).mono ?_); clear hb; rintro e w1 ⟨rfl, hb⟩)) | (go_at_call 92; first | ((with_reducible refine (chain hb (C2.out _ (R.below hb))).mono ?_); clear hb; rintro e w1 ⟨rfl, hb⟩) | ((with_reducible refine (chain hb (C3.out _ (R.below hb))).mono ?_); clear hb; rintro e w1 ⟨rfl, hb⟩)))
  go_ret2
  exact ⟨rfl, hb⟩
set_option maxRecDepth 100000 in
set_option maxHeartbeats 1000000 in
theorem rp_nsl (s : ByteArray) (h0 : 0 < s.size) (hs : s.size ≤ 1000000) (hp : ((s[0].toNat : Int) == 43) = false) (hm : ((s[0].toNat : Int) == 45) = false) (a r : ByteArray) (k : Nat) (hk : k < s.size) (ha : s.extract 0 k = a) (hr : s.extract (k + 1) s.size = r) (_has : a.size ≤ 1000000) (_hrs : r.size ≤ 1000000) (hl : 200 < (s.size : Int)) (c1 : (∀ w, EnvR w → Calls Tryz.prog 91 #[.string s, .string ⟨#[47, 46]⟩] w fun e w' => e = .returned (.int .i64 (k : Int)) ∧ Below w.heap.size w w')) (c2 : (∀ w, EnvR w → Calls Tryz.prog 92 #[.string a] w fun e w' => e = .returned (.bool true) ∧ Below w.heap.size w w')) (c3 : (∀ w, EnvR w → Calls Tryz.prog 92 #[.string r] w fun e w' => e = .returned (.bool true) ∧ Below w.heap.size w w')) (w : World) (R : EnvR w) :
    Calls Tryz.prog 29 #[.string s] w fun e w' => e = .returned (.tuple #[.string ⟨#[]⟩, .int .i64 16]) ∧ Below w.heap.size w w' := by
  have C1 := Lib.hid c1
  have C2 := Lib.hid c2
  have C3 := Lib.hid c3
  clear c1 c2 c3
  have h0' : (0 : Int) < (s.size : Int) := by omega
  have he := eqnil_false s h0
  have he2 := empty_false s h0
  have hk' : (k : Int) < (s.size : Int) := by omega
  have hb := Below.refl w.heap.size w
  go_enter Tryz.func29, Tryz.ntmps29
  go_wp2_with (first | (go_at_call 91; ((with_reducible refine (chain hb (C1.out _ (R.below hb))).mono ?_); clear hb; rintro e w1 ⟨rfl, hb⟩)) | (go_at_call 92; first | ((with_reducible refine (chain hb (C2.out _ (R.below hb))).mono ?_); clear hb; rintro e w1 ⟨rfl, hb⟩) | ((with_reducible refine (chain hb (C3.out _ (R.below hb))).mono ?_); clear hb; rintro e w1 ⟨rfl, hb⟩)))
  go_quiet (fail)
  replace hb := hb.trans ((below_drewN w1 nq).mono hb.size)
  obtain ⟨w1, hw2⟩ : ∃ w2, w1.drewN nq = w2 := ⟨_, rfl⟩
  rw [hw2] at hb ⊢
  clear hw2
  go_wp2_with (first | (go_at_call 91; ((with_reducible refine (chain hb (C1.out _ (R.below hb))).mono ?_); clear hb; rintro e w1 ⟨rfl, hb⟩)) | (go_at_call 92; first | ((with_reducible refine (chain hb (C2.out _ (R.below hb))).mono ?_); clear hb; rintro e w1 ⟨rfl, hb⟩) | ((with_reducible refine (chain hb (C3.out _ (R.below hb))).mono ?_); clear hb; rintro e w1 ⟨rfl, hb⟩)))
  go_ret2
  exact ⟨rfl, hb⟩
set_option maxRecDepth 100000 in
set_option maxHeartbeats 1000000 in
theorem rp_psl (s : ByteArray) (h0 : 0 < s.size) (hs : s.size ≤ 1000000) (T : ByteArray) (hT : T.size ≤ 1000000) (hx : s.extract 1 s.size = T) (hp : ((s[0].toNat : Int) == 43) = true) (_hm : ((s[0].toNat : Int) == 45) = false) (a r : ByteArray) (k : Nat) (hk : k < T.size) (ha : T.extract 0 k = a) (hr : T.extract (k + 1) T.size = r) (_has : a.size ≤ 1000000) (_hrs : r.size ≤ 1000000) (hl : 200 < (s.size : Int)) (c1 : (∀ w, EnvR w → Calls Tryz.prog 91 #[.string T, .string ⟨#[47, 46]⟩] w fun e w' => e = .returned (.int .i64 (k : Int)) ∧ Below w.heap.size w w')) (c2 : (∀ w, EnvR w → Calls Tryz.prog 92 #[.string a] w fun e w' => e = .returned (.bool true) ∧ Below w.heap.size w w')) (c3 : (∀ w, EnvR w → Calls Tryz.prog 92 #[.string r] w fun e w' => e = .returned (.bool true) ∧ Below w.heap.size w w')) (w : World) (R : EnvR w) :
    Calls Tryz.prog 29 #[.string s] w fun e w' => e = .returned (.tuple #[.string ⟨#[]⟩, .int .i64 16]) ∧ Below w.heap.size w w' := by
  have C1 := Lib.hid c1
  have C2 := Lib.hid c2
  have C3 := Lib.hid c3
  clear c1 c2 c3
  have h0' : (0 : Int) < (s.size : Int) := by omega
  have he := eqnil_false s h0
  have he2 := empty_false s h0
  have hk' : (k : Int) < (T.size : Int) := by omega
  have hb := Below.refl w.heap.size w
  go_enter Tryz.func29, Tryz.ntmps29
  go_wp2_with (first | (go_at_call 91; ((with_reducible refine (chain hb (C1.out _ (R.below hb))).mono ?_); clear hb; rintro e w1 ⟨rfl, hb⟩)) | (go_at_call 92; first | ((with_reducible refine (chain hb (C2.out _ (R.below hb))).mono ?_); clear hb; rintro e w1 ⟨rfl, hb⟩) | ((with_reducible refine (chain hb (C3.out _ (R.below hb))).mono ?_); clear hb; rintro e w1 ⟨rfl, hb⟩)))
  go_quiet (fail)
  replace hb := hb.trans ((below_drewN w1 nq).mono hb.size)
  obtain ⟨w1, hw2⟩ : ∃ w2, w1.drewN nq = w2 := ⟨_, rfl⟩
  rw [hw2] at hb ⊢
  clear hw2
  go_wp2_with (first | (go_at_call 91; ((with_reducible refine (chain hb (C1.out _ (R.below hb))).mono ?_); clear hb; rintro e w1 ⟨rfl, hb⟩)) | (go_at_call 92; first | ((with_reducible refine (chain hb (C2.out _ (R.below hb))).mono ?_); clear hb; rintro e w1 ⟨rfl, hb⟩) | ((with_reducible refine (chain hb (C3.out _ (R.below hb))).mono ?_); clear hb; rintro e w1 ⟨rfl, hb⟩)))
  go_ret2
  exact ⟨rfl, hb⟩
set_option maxRecDepth 100000 in
set_option maxHeartbeats 1000000 in
theorem rp_msl (s : ByteArray) (h0 : 0 < s.size) (hs : s.size ≤ 1000000) (T : ByteArray) (hT : T.size ≤ 1000000) (hx : s.extract 1 s.size = T) (hp : ((s[0].toNat : Int) == 43) = false) (hm : ((s[0].toNat : Int) == 45) = true) (a r : ByteArray) (k : Nat) (hk : k < T.size) (ha : T.extract 0 k = a) (hr : T.extract (k + 1) T.size = r) (_has : a.size ≤ 1000000) (_hrs : r.size ≤ 1000000) (hl : 200 < (s.size : Int)) (c1 : (∀ w, EnvR w → Calls Tryz.prog 91 #[.string T, .string ⟨#[47, 46]⟩] w fun e w' => e = .returned (.int .i64 (k : Int)) ∧ Below w.heap.size w w')) (c2 : (∀ w, EnvR w → Calls Tryz.prog 92 #[.string a] w fun e w' => e = .returned (.bool true) ∧ Below w.heap.size w w')) (c3 : (∀ w, EnvR w → Calls Tryz.prog 92 #[.string r] w fun e w' => e = .returned (.bool true) ∧ Below w.heap.size w w')) (w : World) (R : EnvR w) :
    Calls Tryz.prog 29 #[.string s] w fun e w' => e = .returned (.tuple #[.string ⟨#[]⟩, .int .i64 16]) ∧ Below w.heap.size w w' := by
  have C1 := Lib.hid c1
  have C2 := Lib.hid c2
  have C3 := Lib.hid c3
  clear c1 c2 c3
  have h0' : (0 : Int) < (s.size : Int) := by omega
  have he := eqnil_false s h0
  have he2 := empty_false s h0
  have hk' : (k : Int) < (T.size : Int) := by omega
  have hb := Below.refl w.heap.size w
  go_enter Tryz.func29, Tryz.ntmps29
  go_wp2_with (first | (go_at_call 91; ((with_reducible refine (chain hb (C1.out _ (R.below hb))).mono ?_); clear hb; rintro e w1 ⟨rfl, hb⟩)) | (go_at_call 92; first | ((with_reducible refine (chain hb (C2.out _ (R.below hb))).mono ?_); clear hb; rintro e w1 ⟨rfl, hb⟩) | ((with_reducible refine (chain hb (C3.out _ (R.below hb))).mono ?_); clear hb; rintro e w1 ⟨rfl, hb⟩)))
  go_quiet (fail)
  replace hb := hb.trans ((below_drewN w1 nq).mono hb.size)
  obtain ⟨w1, hw2⟩ : ∃ w2, w1.drewN nq = w2 := ⟨_, rfl⟩
  rw [hw2] at hb ⊢
  clear hw2
  go_wp2_with (first | (go_at_call 91; ((with_reducible refine (chain hb (C1.out _ (R.below hb))).mono ?_); clear hb; rintro e w1 ⟨rfl, hb⟩)) | (go_at_call 92; first | ((with_reducible refine (chain hb (C2.out _ (R.below hb))).mono ?_); clear hb; rintro e w1 ⟨rfl, hb⟩) | ((with_reducible refine (chain hb (C3.out _ (R.below hb))).mono ?_); clear hb; rintro e w1 ⟨rfl, hb⟩)))
  go_ret2
  exact ⟨rfl, hb⟩
set_option maxRecDepth 100000 in
set_option maxHeartbeats 1000000 in
theorem rp_nqz (s : ByteArray) (h0 : 0 < s.size) (hs : s.size ≤ 1000000) (hp : ((s[0].toNat : Int) == 43) = false) (hm : ((s[0].toNat : Int) == 45) = false) (m d : ByteArray) (a r : ByteArray) (k : Nat) (hk : k < s.size) (ha : s.extract 0 k = a) (hr : s.extract (k + 1) s.size = r) (_has : a.size ≤ 1000000) (_hrs : r.size ≤ 1000000) (t47 : ((s[k].toNat : Int) == 47) = true) (t46 : ((s[k].toNat : Int) == 46) = false) (hl : (s.size : Int) ≤ 200) (hd : (d.toList == [48]) = true) (c1 : (∀ w, EnvR w → Calls Tryz.prog 91 #[.string s, .string ⟨#[47, 46]⟩] w fun e w' => e = .returned (.int .i64 (k : Int)) ∧ Below w.heap.size w w')) (c2 : (∀ w, EnvR w → Calls Tryz.prog 92 #[.string a] w fun e w' => e = .returned (.bool true) ∧ Below w.heap.size w w')) (c3 : (∀ w, EnvR w → Calls Tryz.prog 92 #[.string r] w fun e w' => e = .returned (.bool true) ∧ Below w.heap.size w w')) (c4 : (∀ w, EnvR w → Calls Tryz.prog 93 #[.string a] w fun e w' => e = .returned (.string m) ∧ Below w.heap.size w w')) (c5 : (∀ w, EnvR w → Calls Tryz.prog 93 #[.string r] w fun e w' => e = .returned (.string d) ∧ Below w.heap.size w w')) (w : World) (R : EnvR w) :
    Calls Tryz.prog 29 #[.string s] w fun e w' => e = .returned (.tuple #[.string ⟨#[]⟩, .int .i64 17]) ∧ Below w.heap.size w w' := by
  have C1 := Lib.hid c1
  have C2 := Lib.hid c2
  have C3 := Lib.hid c3
  have C4 := Lib.hid c4
  have C5 := Lib.hid c5
  clear c1 c2 c3 c4 c5
  have h0' : (0 : Int) < (s.size : Int) := by omega
  have he := eqnil_false s h0
  have he2 := empty_false s h0
  have hk' : (k : Int) < (s.size : Int) := by omega
  have hb := Below.refl w.heap.size w
  go_enter Tryz.func29, Tryz.ntmps29
  go_wp2_with (first | (go_at_call 91; ((with_reducible refine (chain hb (C1.out _ (R.below hb))).mono ?_); clear hb; rintro e w1 ⟨rfl, hb⟩)) | (go_at_call 92; first | ((with_reducible refine (chain hb (C2.out _ (R.below hb))).mono ?_); clear hb; rintro e w1 ⟨rfl, hb⟩) | ((with_reducible refine (chain hb (C3.out _ (R.below hb))).mono ?_); clear hb; rintro e w1 ⟨rfl, hb⟩)) | (go_at_call 93; first | ((with_reducible refine (chain hb (C4.out _ (R.below hb))).mono ?_); clear hb; rintro e w1 ⟨rfl, hb⟩) | ((with_reducible refine (chain hb (C5.out _ (R.below hb))).mono ?_); clear hb; rintro e w1 ⟨rfl, hb⟩)))
  go_quiet (fail)
  replace hb := hb.trans ((below_drewN w1 nq).mono hb.size)
  obtain ⟨w1, hw2⟩ : ∃ w2, w1.drewN nq = w2 := ⟨_, rfl⟩
  rw [hw2] at hb ⊢
  clear hw2
  go_wp2_with (first | (go_at_call 91; ((with_reducible refine (chain hb (C1.out _ (R.below hb))).mono ?_); clear hb; rintro e w1 ⟨rfl, hb⟩)) | (go_at_call 92; first | ((with_reducible refine (chain hb (C2.out _ (R.below hb))).mono ?_); clear hb; rintro e w1 ⟨rfl, hb⟩) | ((with_reducible refine (chain hb (C3.out _ (R.below hb))).mono ?_); clear hb; rintro e w1 ⟨rfl, hb⟩)) | (go_at_call 93; first | ((with_reducible refine (chain hb (C4.out _ (R.below hb))).mono ?_); clear hb; rintro e w1 ⟨rfl, hb⟩) | ((with_reducible refine (chain hb (C5.out _ (R.below hb))).mono ?_); clear hb; rintro e w1 ⟨rfl, hb⟩)))
  go_ret2
  exact ⟨rfl, hb⟩
set_option maxRecDepth 100000 in
set_option maxHeartbeats 1000000 in
theorem rp_pqz (s : ByteArray) (h0 : 0 < s.size) (hs : s.size ≤ 1000000) (T : ByteArray) (hT : T.size ≤ 1000000) (hx : s.extract 1 s.size = T) (hp : ((s[0].toNat : Int) == 43) = true) (_hm : ((s[0].toNat : Int) == 45) = false) (m d : ByteArray) (a r : ByteArray) (k : Nat) (hk : k < T.size) (ha : T.extract 0 k = a) (hr : T.extract (k + 1) T.size = r) (_has : a.size ≤ 1000000) (_hrs : r.size ≤ 1000000) (t47 : ((T[k].toNat : Int) == 47) = true) (t46 : ((T[k].toNat : Int) == 46) = false) (hl : (s.size : Int) ≤ 200) (hd : (d.toList == [48]) = true) (c1 : (∀ w, EnvR w → Calls Tryz.prog 91 #[.string T, .string ⟨#[47, 46]⟩] w fun e w' => e = .returned (.int .i64 (k : Int)) ∧ Below w.heap.size w w')) (c2 : (∀ w, EnvR w → Calls Tryz.prog 92 #[.string a] w fun e w' => e = .returned (.bool true) ∧ Below w.heap.size w w')) (c3 : (∀ w, EnvR w → Calls Tryz.prog 92 #[.string r] w fun e w' => e = .returned (.bool true) ∧ Below w.heap.size w w')) (c4 : (∀ w, EnvR w → Calls Tryz.prog 93 #[.string a] w fun e w' => e = .returned (.string m) ∧ Below w.heap.size w w')) (c5 : (∀ w, EnvR w → Calls Tryz.prog 93 #[.string r] w fun e w' => e = .returned (.string d) ∧ Below w.heap.size w w')) (w : World) (R : EnvR w) :
    Calls Tryz.prog 29 #[.string s] w fun e w' => e = .returned (.tuple #[.string ⟨#[]⟩, .int .i64 17]) ∧ Below w.heap.size w w' := by
  have C1 := Lib.hid c1
  have C2 := Lib.hid c2
  have C3 := Lib.hid c3
  have C4 := Lib.hid c4
  have C5 := Lib.hid c5
  clear c1 c2 c3 c4 c5
  have h0' : (0 : Int) < (s.size : Int) := by omega
  have he := eqnil_false s h0
  have he2 := empty_false s h0
  have hk' : (k : Int) < (T.size : Int) := by omega
  have hb := Below.refl w.heap.size w
  go_enter Tryz.func29, Tryz.ntmps29
  go_wp2_with (first | (go_at_call 91; ((with_reducible refine (chain hb (C1.out _ (R.below hb))).mono ?_); clear hb; rintro e w1 ⟨rfl, hb⟩)) | (go_at_call 92; first | ((with_reducible refine (chain hb (C2.out _ (R.below hb))).mono ?_); clear hb; rintro e w1 ⟨rfl, hb⟩) | ((with_reducible refine (chain hb (C3.out _ (R.below hb))).mono ?_); clear hb; rintro e w1 ⟨rfl, hb⟩)) | (go_at_call 93; first | ((with_reducible refine (chain hb (C4.out _ (R.below hb))).mono ?_); clear hb; rintro e w1 ⟨rfl, hb⟩) | ((with_reducible refine (chain hb (C5.out _ (R.below hb))).mono ?_); clear hb; rintro e w1 ⟨rfl, hb⟩)))
  go_quiet (fail)
  replace hb := hb.trans ((below_drewN w1 nq).mono hb.size)
  obtain ⟨w1, hw2⟩ : ∃ w2, w1.drewN nq = w2 := ⟨_, rfl⟩
  rw [hw2] at hb ⊢
  clear hw2
  go_wp2_with (first | (go_at_call 91; ((with_reducible refine (chain hb (C1.out _ (R.below hb))).mono ?_); clear hb; rintro e w1 ⟨rfl, hb⟩)) | (go_at_call 92; first | ((with_reducible refine (chain hb (C2.out _ (R.below hb))).mono ?_); clear hb; rintro e w1 ⟨rfl, hb⟩) | ((with_reducible refine (chain hb (C3.out _ (R.below hb))).mono ?_); clear hb; rintro e w1 ⟨rfl, hb⟩)) | (go_at_call 93; first | ((with_reducible refine (chain hb (C4.out _ (R.below hb))).mono ?_); clear hb; rintro e w1 ⟨rfl, hb⟩) | ((with_reducible refine (chain hb (C5.out _ (R.below hb))).mono ?_); clear hb; rintro e w1 ⟨rfl, hb⟩)))
  go_ret2
  exact ⟨rfl, hb⟩
set_option maxRecDepth 100000 in
set_option maxHeartbeats 1000000 in
theorem rp_mqz (s : ByteArray) (h0 : 0 < s.size) (hs : s.size ≤ 1000000) (T : ByteArray) (hT : T.size ≤ 1000000) (hx : s.extract 1 s.size = T) (hp : ((s[0].toNat : Int) == 43) = false) (hm : ((s[0].toNat : Int) == 45) = true) (m d : ByteArray) (a r : ByteArray) (k : Nat) (hk : k < T.size) (ha : T.extract 0 k = a) (hr : T.extract (k + 1) T.size = r) (_has : a.size ≤ 1000000) (_hrs : r.size ≤ 1000000) (t47 : ((T[k].toNat : Int) == 47) = true) (t46 : ((T[k].toNat : Int) == 46) = false) (hl : (s.size : Int) ≤ 200) (hd : (d.toList == [48]) = true) (c1 : (∀ w, EnvR w → Calls Tryz.prog 91 #[.string T, .string ⟨#[47, 46]⟩] w fun e w' => e = .returned (.int .i64 (k : Int)) ∧ Below w.heap.size w w')) (c2 : (∀ w, EnvR w → Calls Tryz.prog 92 #[.string a] w fun e w' => e = .returned (.bool true) ∧ Below w.heap.size w w')) (c3 : (∀ w, EnvR w → Calls Tryz.prog 92 #[.string r] w fun e w' => e = .returned (.bool true) ∧ Below w.heap.size w w')) (c4 : (∀ w, EnvR w → Calls Tryz.prog 93 #[.string a] w fun e w' => e = .returned (.string m) ∧ Below w.heap.size w w')) (c5 : (∀ w, EnvR w → Calls Tryz.prog 93 #[.string r] w fun e w' => e = .returned (.string d) ∧ Below w.heap.size w w')) (w : World) (R : EnvR w) :
    Calls Tryz.prog 29 #[.string s] w fun e w' => e = .returned (.tuple #[.string ⟨#[]⟩, .int .i64 17]) ∧ Below w.heap.size w w' := by
  have C1 := Lib.hid c1
  have C2 := Lib.hid c2
  have C3 := Lib.hid c3
  have C4 := Lib.hid c4
  have C5 := Lib.hid c5
  clear c1 c2 c3 c4 c5
  have h0' : (0 : Int) < (s.size : Int) := by omega
  have he := eqnil_false s h0
  have he2 := empty_false s h0
  have hk' : (k : Int) < (T.size : Int) := by omega
  have hb := Below.refl w.heap.size w
  go_enter Tryz.func29, Tryz.ntmps29
  go_wp2_with (first | (go_at_call 91; ((with_reducible refine (chain hb (C1.out _ (R.below hb))).mono ?_); clear hb; rintro e w1 ⟨rfl, hb⟩)) | (go_at_call 92; first | ((with_reducible refine (chain hb (C2.out _ (R.below hb))).mono ?_); clear hb; rintro e w1 ⟨rfl, hb⟩) | ((with_reducible refine (chain hb (C3.out _ (R.below hb))).mono ?_); clear hb; rintro e w1 ⟨rfl, hb⟩)) | (go_at_call 93; first | ((with_reducible refine (chain hb (C4.out _ (R.below hb))).mono ?_); clear hb; rintro e w1 ⟨rfl, hb⟩) | ((with_reducible refine (chain hb (C5.out _ (R.below hb))).mono ?_); clear hb; rintro e w1 ⟨rfl, hb⟩)))
  go_quiet (fail)
  replace hb := hb.trans ((below_drewN w1 nq).mono hb.size)
  obtain ⟨w1, hw2⟩ : ∃ w2, w1.drewN nq = w2 := ⟨_, rfl⟩
  rw [hw2] at hb ⊢
  clear hw2
  go_wp2_with (first | (go_at_call 91; ((with_reducible refine (chain hb (C1.out _ (R.below hb))).mono ?_); clear hb; rintro e w1 ⟨rfl, hb⟩)) | (go_at_call 92; first | ((with_reducible refine (chain hb (C2.out _ (R.below hb))).mono ?_); clear hb; rintro e w1 ⟨rfl, hb⟩) | ((with_reducible refine (chain hb (C3.out _ (R.below hb))).mono ?_); clear hb; rintro e w1 ⟨rfl, hb⟩)) | (go_at_call 93; first | ((with_reducible refine (chain hb (C4.out _ (R.below hb))).mono ?_); clear hb; rintro e w1 ⟨rfl, hb⟩) | ((with_reducible refine (chain hb (C5.out _ (R.below hb))).mono ?_); clear hb; rintro e w1 ⟨rfl, hb⟩)))
  go_ret2
  exact ⟨rfl, hb⟩
set_option maxRecDepth 100000 in
set_option maxHeartbeats 1000000 in
theorem rp_nqy (s : ByteArray) (h0 : 0 < s.size) (hs : s.size ≤ 1000000) (hp : ((s[0].toNat : Int) == 43) = false) (hm : ((s[0].toNat : Int) == 45) = false) (m d _m2 res : ByteArray) (a r : ByteArray) (k : Nat) (hk : k < s.size) (ha : s.extract 0 k = a) (hr : s.extract (k + 1) s.size = r) (_has : a.size ≤ 1000000) (_hrs : r.size ≤ 1000000) (t47 : ((s[k].toNat : Int) == 47) = true) (t46 : ((s[k].toNat : Int) == 46) = false) (hl : (s.size : Int) ≤ 200) (hd : (d.toList == [48]) = false) (c1 : (∀ w, EnvR w → Calls Tryz.prog 91 #[.string s, .string ⟨#[47, 46]⟩] w fun e w' => e = .returned (.int .i64 (k : Int)) ∧ Below w.heap.size w w')) (c2 : (∀ w, EnvR w → Calls Tryz.prog 92 #[.string a] w fun e w' => e = .returned (.bool true) ∧ Below w.heap.size w w')) (c3 : (∀ w, EnvR w → Calls Tryz.prog 92 #[.string r] w fun e w' => e = .returned (.bool true) ∧ Below w.heap.size w w')) (c4 : (∀ w, EnvR w → Calls Tryz.prog 93 #[.string a] w fun e w' => e = .returned (.string m) ∧ Below w.heap.size w w')) (c5 : (∀ w, EnvR w → Calls Tryz.prog 93 #[.string r] w fun e w' => e = .returned (.string d) ∧ Below w.heap.size w w')) (c6 : (∀ w, EnvR w → Calls Tryz.prog 26 #[.string m, .string d] w fun e w' => e = .returned (.string res) ∧ Below w.heap.size w w')) (w : World) (R : EnvR w) :
    Calls Tryz.prog 29 #[.string s] w fun e w' => e = .returned (.tuple #[.string res, .int .i64 0]) ∧ Below w.heap.size w w' := by
  have C1 := Lib.hid c1
  have C2 := Lib.hid c2
  have C3 := Lib.hid c3
  have C4 := Lib.hid c4
  have C5 := Lib.hid c5
  have C6 := Lib.hid c6
  clear c1 c2 c3 c4 c5 c6
  have h0' : (0 : Int) < (s.size : Int) := by omega
  have he := eqnil_false s h0
  have he2 := empty_false s h0
  have hk' : (k : Int) < (s.size : Int) := by omega
  have hb := Below.refl w.heap.size w
  go_enter Tryz.func29, Tryz.ntmps29
  go_wp2_with (first | (go_at_call 91; ((with_reducible refine (chain hb (C1.out _ (R.below hb))).mono ?_); clear hb; rintro e w1 ⟨rfl, hb⟩)) | (go_at_call 92; first | ((with_reducible refine (chain hb (C2.out _ (R.below hb))).mono ?_); clear hb; rintro e w1 ⟨rfl, hb⟩) | ((with_reducible refine (chain hb (C3.out _ (R.below hb))).mono ?_); clear hb; rintro e w1 ⟨rfl, hb⟩)) | (go_at_call 93; first | ((with_reducible refine (chain hb (C4.out _ (R.below hb))).mono ?_); clear hb; rintro e w1 ⟨rfl, hb⟩) | ((with_reducible refine (chain hb (C5.out _ (R.below hb))).mono ?_); clear hb; rintro e w1 ⟨rfl, hb⟩)) | (go_at_call 26; ((with_reducible refine (chain hb (C6.out _ (R.below hb))).mono ?_); clear hb; rintro e w1 ⟨rfl, hb⟩)))
  go_quiet (fail)
  replace hb := hb.trans ((below_drewN w1 nq).mono hb.size)
  obtain ⟨w1, hw2⟩ : ∃ w2, w1.drewN nq = w2 := ⟨_, rfl⟩
  rw [hw2] at hb ⊢
  clear hw2
  go_wp2_with (first | (go_at_call 91; ((with_reducible refine (chain hb (C1.out _ (R.below hb))).mono ?_); clear hb; rintro e w1 ⟨rfl, hb⟩)) | (go_at_call 92; first | ((with_reducible refine (chain hb (C2.out _ (R.below hb))).mono ?_); clear hb; rintro e w1 ⟨rfl, hb⟩) | ((with_reducible refine (chain hb (C3.out _ (R.below hb))).mono ?_); clear hb; rintro e w1 ⟨rfl, hb⟩)) | (go_at_call 93; first | ((with_reducible refine (chain hb (C4.out _ (R.below hb))).mono ?_); clear hb; rintro e w1 ⟨rfl, hb⟩) | ((with_reducible refine (chain hb (C5.out _ (R.below hb))).mono ?_); clear hb; rintro e w1 ⟨rfl, hb⟩)) | (go_at_call 26; ((with_reducible refine (chain hb (C6.out _ (R.below hb))).mono ?_); clear hb; rintro e w1 ⟨rfl, hb⟩)))
  go_ret2
  exact ⟨rfl, hb⟩
set_option maxRecDepth 100000 in
set_option maxHeartbeats 1000000 in
theorem rp_pqy (s : ByteArray) (h0 : 0 < s.size) (hs : s.size ≤ 1000000) (T : ByteArray) (hT : T.size ≤ 1000000) (hx : s.extract 1 s.size = T) (hp : ((s[0].toNat : Int) == 43) = true) (hm : ((s[0].toNat : Int) == 45) = false) (m d _m2 res : ByteArray) (a r : ByteArray) (k : Nat) (hk : k < T.size) (ha : T.extract 0 k = a) (hr : T.extract (k + 1) T.size = r) (_has : a.size ≤ 1000000) (_hrs : r.size ≤ 1000000) (t47 : ((T[k].toNat : Int) == 47) = true) (t46 : ((T[k].toNat : Int) == 46) = false) (hl : (s.size : Int) ≤ 200) (hd : (d.toList == [48]) = false) (c1 : (∀ w, EnvR w → Calls Tryz.prog 91 #[.string T, .string ⟨#[47, 46]⟩] w fun e w' => e = .returned (.int .i64 (k : Int)) ∧ Below w.heap.size w w')) (c2 : (∀ w, EnvR w → Calls Tryz.prog 92 #[.string a] w fun e w' => e = .returned (.bool true) ∧ Below w.heap.size w w')) (c3 : (∀ w, EnvR w → Calls Tryz.prog 92 #[.string r] w fun e w' => e = .returned (.bool true) ∧ Below w.heap.size w w')) (c4 : (∀ w, EnvR w → Calls Tryz.prog 93 #[.string a] w fun e w' => e = .returned (.string m) ∧ Below w.heap.size w w')) (c5 : (∀ w, EnvR w → Calls Tryz.prog 93 #[.string r] w fun e w' => e = .returned (.string d) ∧ Below w.heap.size w w')) (c6 : (∀ w, EnvR w → Calls Tryz.prog 26 #[.string m, .string d] w fun e w' => e = .returned (.string res) ∧ Below w.heap.size w w')) (w : World) (R : EnvR w) :
    Calls Tryz.prog 29 #[.string s] w fun e w' => e = .returned (.tuple #[.string res, .int .i64 0]) ∧ Below w.heap.size w w' := by
  have C1 := Lib.hid c1
  have C2 := Lib.hid c2
  have C3 := Lib.hid c3
  have C4 := Lib.hid c4
  have C5 := Lib.hid c5
  have C6 := Lib.hid c6
  clear c1 c2 c3 c4 c5 c6
  have h0' : (0 : Int) < (s.size : Int) := by omega
  have he := eqnil_false s h0
  have he2 := empty_false s h0
  have hk' : (k : Int) < (T.size : Int) := by omega
  have hb := Below.refl w.heap.size w
  go_enter Tryz.func29, Tryz.ntmps29
  go_wp2_with (first | (go_at_call 91; ((with_reducible refine (chain hb (C1.out _ (R.below hb))).mono ?_); clear hb; rintro e w1 ⟨rfl, hb⟩)) | (go_at_call 92; first | ((with_reducible refine (chain hb (C2.out _ (R.below hb))).mono ?_); clear hb; rintro e w1 ⟨rfl, hb⟩) | ((with_reducible refine (chain hb (C3.out _ (R.below hb))).mono ?_); clear hb; rintro e w1 ⟨rfl, hb⟩)) | (go_at_call 93; first | ((with_reducible refine (chain hb (C4.out _ (R.below hb))).mono ?_); clear hb; rintro e w1 ⟨rfl, hb⟩) | ((with_reducible refine (chain hb (C5.out _ (R.below hb))).mono ?_); clear hb; rintro e w1 ⟨rfl, hb⟩)) | (go_at_call 26; ((with_reducible refine (chain hb (C6.out _ (R.below hb))).mono ?_); clear hb; rintro e w1 ⟨rfl, hb⟩)))
  go_quiet (fail)
  replace hb := hb.trans ((below_drewN w1 nq).mono hb.size)
  obtain ⟨w1, hw2⟩ : ∃ w2, w1.drewN nq = w2 := ⟨_, rfl⟩
  rw [hw2] at hb ⊢
  clear hw2
  go_wp2_with (first | (go_at_call 91; ((with_reducible refine (chain hb (C1.out _ (R.below hb))).mono ?_); clear hb; rintro e w1 ⟨rfl, hb⟩)) | (go_at_call 92; first | ((with_reducible refine (chain hb (C2.out _ (R.below hb))).mono ?_); clear hb; rintro e w1 ⟨rfl, hb⟩) | ((with_reducible refine (chain hb (C3.out _ (R.below hb))).mono ?_); clear hb; rintro e w1 ⟨rfl, hb⟩)) | (go_at_call 93; first | ((with_reducible refine (chain hb (C4.out _ (R.below hb))).mono ?_); clear hb; rintro e w1 ⟨rfl, hb⟩) | ((with_reducible refine (chain hb (C5.out _ (R.below hb))).mono ?_); clear hb; rintro e w1 ⟨rfl, hb⟩)) | (go_at_call 26; ((with_reducible refine (chain hb (C6.out _ (R.below hb))).mono ?_); clear hb; rintro e w1 ⟨rfl, hb⟩)))
  go_ret2
  exact ⟨rfl, hb⟩
set_option maxRecDepth 100000 in
set_option maxHeartbeats 1000000 in
theorem rp_mqy (s : ByteArray) (h0 : 0 < s.size) (hs : s.size ≤ 1000000) (T : ByteArray) (hT : T.size ≤ 1000000) (hx : s.extract 1 s.size = T) (hp : ((s[0].toNat : Int) == 43) = false) (hm : ((s[0].toNat : Int) == 45) = true) (m d m2 res : ByteArray) (a r : ByteArray) (k : Nat) (hk : k < T.size) (ha : T.extract 0 k = a) (hr : T.extract (k + 1) T.size = r) (_has : a.size ≤ 1000000) (_hrs : r.size ≤ 1000000) (t47 : ((T[k].toNat : Int) == 47) = true) (t46 : ((T[k].toNat : Int) == 46) = false) (hl : (s.size : Int) ≤ 200) (hd : (d.toList == [48]) = false) (c1 : (∀ w, EnvR w → Calls Tryz.prog 91 #[.string T, .string ⟨#[47, 46]⟩] w fun e w' => e = .returned (.int .i64 (k : Int)) ∧ Below w.heap.size w w')) (c2 : (∀ w, EnvR w → Calls Tryz.prog 92 #[.string a] w fun e w' => e = .returned (.bool true) ∧ Below w.heap.size w w')) (c3 : (∀ w, EnvR w → Calls Tryz.prog 92 #[.string r] w fun e w' => e = .returned (.bool true) ∧ Below w.heap.size w w')) (c4 : (∀ w, EnvR w → Calls Tryz.prog 93 #[.string a] w fun e w' => e = .returned (.string m) ∧ Below w.heap.size w w')) (c5 : (∀ w, EnvR w → Calls Tryz.prog 93 #[.string r] w fun e w' => e = .returned (.string d) ∧ Below w.heap.size w w')) (c6 : (∀ w, EnvR w → Calls Tryz.prog 80 #[.string m] w fun e w' => e = .returned (.string m2) ∧ Below w.heap.size w w')) (c7 : (∀ w, EnvR w → Calls Tryz.prog 26 #[.string m2, .string d] w fun e w' => e = .returned (.string res) ∧ Below w.heap.size w w')) (w : World) (R : EnvR w) :
    Calls Tryz.prog 29 #[.string s] w fun e w' => e = .returned (.tuple #[.string res, .int .i64 0]) ∧ Below w.heap.size w w' := by
  have C1 := Lib.hid c1
  have C2 := Lib.hid c2
  have C3 := Lib.hid c3
  have C4 := Lib.hid c4
  have C5 := Lib.hid c5
  have C6 := Lib.hid c6
  have C7 := Lib.hid c7
  clear c1 c2 c3 c4 c5 c6 c7
  have h0' : (0 : Int) < (s.size : Int) := by omega
  have he := eqnil_false s h0
  have he2 := empty_false s h0
  have hk' : (k : Int) < (T.size : Int) := by omega
  have hb := Below.refl w.heap.size w
  go_enter Tryz.func29, Tryz.ntmps29
  go_wp2_with (first | (go_at_call 91; ((with_reducible refine (chain hb (C1.out _ (R.below hb))).mono ?_); clear hb; rintro e w1 ⟨rfl, hb⟩)) | (go_at_call 92; first | ((with_reducible refine (chain hb (C2.out _ (R.below hb))).mono ?_); clear hb; rintro e w1 ⟨rfl, hb⟩) | ((with_reducible refine (chain hb (C3.out _ (R.below hb))).mono ?_); clear hb; rintro e w1 ⟨rfl, hb⟩)) | (go_at_call 93; first | ((with_reducible refine (chain hb (C4.out _ (R.below hb))).mono ?_); clear hb; rintro e w1 ⟨rfl, hb⟩) | ((with_reducible refine (chain hb (C5.out _ (R.below hb))).mono ?_); clear hb; rintro e w1 ⟨rfl, hb⟩)) | (go_at_call 80; ((with_reducible refine (chain hb (C6.out _ (R.below hb))).mono ?_); clear hb; rintro e w1 ⟨rfl, hb⟩)) | (go_at_call 26; ((with_reducible refine (chain hb (C7.out _ (R.below hb))).mono ?_); clear hb; rintro e w1 ⟨rfl, hb⟩)))
  go_quiet (fail)
  replace hb := hb.trans ((below_drewN w1 nq).mono hb.size)
  obtain ⟨w1, hw2⟩ : ∃ w2, w1.drewN nq = w2 := ⟨_, rfl⟩
  rw [hw2] at hb ⊢
  clear hw2
  go_wp2_with (first | (go_at_call 91; ((with_reducible refine (chain hb (C1.out _ (R.below hb))).mono ?_); clear hb; rintro e w1 ⟨rfl, hb⟩)) | (go_at_call 92; first | ((with_reducible refine (chain hb (C2.out _ (R.below hb))).mono ?_); clear hb; rintro e w1 ⟨rfl, hb⟩) | ((with_reducible refine (chain hb (C3.out _ (R.below hb))).mono ?_); clear hb; rintro e w1 ⟨rfl, hb⟩)) | (go_at_call 93; first | ((with_reducible refine (chain hb (C4.out _ (R.below hb))).mono ?_); clear hb; rintro e w1 ⟨rfl, hb⟩) | ((with_reducible refine (chain hb (C5.out _ (R.below hb))).mono ?_); clear hb; rintro e w1 ⟨rfl, hb⟩)) | (go_at_call 80; ((with_reducible refine (chain hb (C6.out _ (R.below hb))).mono ?_); clear hb; rintro e w1 ⟨rfl, hb⟩)) | (go_at_call 26; ((with_reducible refine (chain hb (C7.out _ (R.below hb))).mono ?_); clear hb; rintro e w1 ⟨rfl, hb⟩)))
  go_ret2
  exact ⟨rfl, hb⟩
set_option maxRecDepth 100000 in
set_option maxHeartbeats 1000000 in
theorem rp_ndy (s : ByteArray) (h0 : 0 < s.size) (hs : s.size ≤ 1000000) (hp : ((s[0].toNat : Int) == 43) = false) (hm : ((s[0].toNat : Int) == 45) = false) (m0 m z _m2 res : ByteArray) (a r : ByteArray) (k : Nat) (hk : k < s.size) (ha : s.extract 0 k = a) (hr : s.extract (k + 1) s.size = r) (has : a.size ≤ 1000000) (hrs : r.size ≤ 1000000) (t47 : ((s[k].toNat : Int) == 47) = false) (t46 : ((s[k].toNat : Int) == 46) = true) (hl : (s.size : Int) ≤ 200) (hz : z.size ≤ 1000000) (hd : ((⟨#[49]⟩ ++ z).toList == [48]) = false) (c1 : (∀ w, EnvR w → Calls Tryz.prog 91 #[.string s, .string ⟨#[47, 46]⟩] w fun e w' => e = .returned (.int .i64 (k : Int)) ∧ Below w.heap.size w w')) (c2 : (∀ w, EnvR w → Calls Tryz.prog 92 #[.string a] w fun e w' => e = .returned (.bool true) ∧ Below w.heap.size w w')) (c3 : (∀ w, EnvR w → Calls Tryz.prog 92 #[.string r] w fun e w' => e = .returned (.bool true) ∧ Below w.heap.size w w')) (c4 : (∀ w, EnvR w → Calls Tryz.prog 93 #[.string a] w fun e w' => e = .returned (.string m0) ∧ Below w.heap.size w w')) (c5 : (∀ w, EnvR w → Calls Tryz.prog 93 #[.string (a ++ r)] w fun e w' => e = .returned (.string m) ∧ Below w.heap.size w w')) (c6 : (∀ w, EnvR w → Calls Tryz.prog 27 #[.string ⟨#[48]⟩, .int .i64 (r.size : Int)] w fun e w' => e = .returned (.string z) ∧ Below w.heap.size w w')) (c7 : (∀ w, EnvR w → Calls Tryz.prog 26 #[.string m, .string (⟨#[49]⟩ ++ z)] w fun e w' => e = .returned (.string res) ∧ Below w.heap.size w w')) (w : World) (R : EnvR w) :
    Calls Tryz.prog 29 #[.string s] w fun e w' => e = .returned (.tuple #[.string res, .int .i64 0]) ∧ Below w.heap.size w w' := by
  have C1 := Lib.hid c1
  have C2 := Lib.hid c2
  have C3 := Lib.hid c3
  have C4 := Lib.hid c4
  have C5 := Lib.hid c5
  have C6 := Lib.hid c6
  have C7 := Lib.hid c7
  clear c1 c2 c3 c4 c5 c6 c7
  have h0' : (0 : Int) < (s.size : Int) := by omega
  have he := eqnil_false s h0
  have he2 := empty_false s h0
  have hk' : (k : Int) < (s.size : Int) := by omega
  have hb := Below.refl w.heap.size w
  go_enter Tryz.func29, Tryz.ntmps29
  go_wp2_with (first | (go_at_call 91; ((with_reducible refine (chain hb (C1.out _ (R.below hb))).mono ?_); clear hb; rintro e w1 ⟨rfl, hb⟩)) | (go_at_call 92; first | ((with_reducible refine (chain hb (C2.out _ (R.below hb))).mono ?_); clear hb; rintro e w1 ⟨rfl, hb⟩) | ((with_reducible refine (chain hb (C3.out _ (R.below hb))).mono ?_); clear hb; rintro e w1 ⟨rfl, hb⟩)) | (go_at_call 93; first | ((with_reducible refine (chain hb (C4.out _ (R.below hb))).mono ?_); clear hb; rintro e w1 ⟨rfl, hb⟩) | ((with_reducible refine (chain hb (C5.out _ (R.below hb))).mono ?_); clear hb; rintro e w1 ⟨rfl, hb⟩)) | (go_at_call 27; ((with_reducible refine (chain hb (C6.out _ (R.below hb))).mono ?_); clear hb; rintro e w1 ⟨rfl, hb⟩)) | (go_at_call 26; ((with_reducible refine (chain hb (C7.out _ (R.below hb))).mono ?_); clear hb; rintro e w1 ⟨rfl, hb⟩)))
  go_quiet (fail)
  replace hb := hb.trans ((below_drewN w1 nq).mono hb.size)
  obtain ⟨w1, hw2⟩ : ∃ w2, w1.drewN nq = w2 := ⟨_, rfl⟩
  rw [hw2] at hb ⊢
  clear hw2
  go_wp2_with (first | (go_at_call 91; ((with_reducible refine (chain hb (C1.out _ (R.below hb))).mono ?_); clear hb; rintro e w1 ⟨rfl, hb⟩)) | (go_at_call 92; first | ((with_reducible refine (chain hb (C2.out _ (R.below hb))).mono ?_); clear hb; rintro e w1 ⟨rfl, hb⟩) | ((with_reducible refine (chain hb (C3.out _ (R.below hb))).mono ?_); clear hb; rintro e w1 ⟨rfl, hb⟩)) | (go_at_call 93; first | ((with_reducible refine (chain hb (C4.out _ (R.below hb))).mono ?_); clear hb; rintro e w1 ⟨rfl, hb⟩) | ((with_reducible refine (chain hb (C5.out _ (R.below hb))).mono ?_); clear hb; rintro e w1 ⟨rfl, hb⟩)) | (go_at_call 27; ((with_reducible refine (chain hb (C6.out _ (R.below hb))).mono ?_); clear hb; rintro e w1 ⟨rfl, hb⟩)) | (go_at_call 26; ((with_reducible refine (chain hb (C7.out _ (R.below hb))).mono ?_); clear hb; rintro e w1 ⟨rfl, hb⟩)))
  go_ret2
  exact ⟨rfl, hb⟩
set_option maxRecDepth 100000 in
set_option maxHeartbeats 1000000 in
theorem rp_pdy (s : ByteArray) (h0 : 0 < s.size) (hs : s.size ≤ 1000000) (T : ByteArray) (hT : T.size ≤ 1000000) (hx : s.extract 1 s.size = T) (hp : ((s[0].toNat : Int) == 43) = true) (hm : ((s[0].toNat : Int) == 45) = false) (m0 m z _m2 res : ByteArray) (a r : ByteArray) (k : Nat) (hk : k < T.size) (ha : T.extract 0 k = a) (hr : T.extract (k + 1) T.size = r) (has : a.size ≤ 1000000) (hrs : r.size ≤ 1000000) (t47 : ((T[k].toNat : Int) == 47) = false) (t46 : ((T[k].toNat : Int) == 46) = true) (hl : (s.size : Int) ≤ 200) (hz : z.size ≤ 1000000) (hd : ((⟨#[49]⟩ ++ z).toList == [48]) = false) (c1 : (∀ w, EnvR w → Calls Tryz.prog 91 #[.string T, .string ⟨#[47, 46]⟩] w fun e w' => e = .returned (.int .i64 (k : Int)) ∧ Below w.heap.size w w')) (c2 : (∀ w, EnvR w → Calls Tryz.prog 92 #[.string a] w fun e w' => e = .returned (.bool true) ∧ Below w.heap.size w w')) (c3 : (∀ w, EnvR w → Calls Tryz.prog 92 #[.string r] w fun e w' => e = .returned (.bool true) ∧ Below w.heap.size w w')) (c4 : (∀ w, EnvR w → Calls Tryz.prog 93 #[.string a] w fun e w' => e = .returned (.string m0) ∧ Below w.heap.size w w')) (c5 : (∀ w, EnvR w → Calls Tryz.prog 93 #[.string (a ++ r)] w fun e w' => e = .returned (.string m) ∧ Below w.heap.size w w')) (c6 : (∀ w, EnvR w → Calls Tryz.prog 27 #[.string ⟨#[48]⟩, .int .i64 (r.size : Int)] w fun e w' => e = .returned (.string z) ∧ Below w.heap.size w w')) (c7 : (∀ w, EnvR w → Calls Tryz.prog 26 #[.string m, .string (⟨#[49]⟩ ++ z)] w fun e w' => e = .returned (.string res) ∧ Below w.heap.size w w')) (w : World) (R : EnvR w) :
    Calls Tryz.prog 29 #[.string s] w fun e w' => e = .returned (.tuple #[.string res, .int .i64 0]) ∧ Below w.heap.size w w' := by
  have C1 := Lib.hid c1
  have C2 := Lib.hid c2
  have C3 := Lib.hid c3
  have C4 := Lib.hid c4
  have C5 := Lib.hid c5
  have C6 := Lib.hid c6
  have C7 := Lib.hid c7
  clear c1 c2 c3 c4 c5 c6 c7
  have h0' : (0 : Int) < (s.size : Int) := by omega
  have he := eqnil_false s h0
  have he2 := empty_false s h0
  have hk' : (k : Int) < (T.size : Int) := by omega
  have hb := Below.refl w.heap.size w
  go_enter Tryz.func29, Tryz.ntmps29
  go_wp2_with (first | (go_at_call 91; ((with_reducible refine (chain hb (C1.out _ (R.below hb))).mono ?_); clear hb; rintro e w1 ⟨rfl, hb⟩)) | (go_at_call 92; first | ((with_reducible refine (chain hb (C2.out _ (R.below hb))).mono ?_); clear hb; rintro e w1 ⟨rfl, hb⟩) | ((with_reducible refine (chain hb (C3.out _ (R.below hb))).mono ?_); clear hb; rintro e w1 ⟨rfl, hb⟩)) | (go_at_call 93; first | ((with_reducible refine (chain hb (C4.out _ (R.below hb))).mono ?_); clear hb; rintro e w1 ⟨rfl, hb⟩) | ((with_reducible refine (chain hb (C5.out _ (R.below hb))).mono ?_); clear hb; rintro e w1 ⟨rfl, hb⟩)) | (go_at_call 27; ((with_reducible refine (chain hb (C6.out _ (R.below hb))).mono ?_); clear hb; rintro e w1 ⟨rfl, hb⟩)) | (go_at_call 26; ((with_reducible refine (chain hb (C7.out _ (R.below hb))).mono ?_); clear hb; rintro e w1 ⟨rfl, hb⟩)))
  go_quiet (fail)
  replace hb := hb.trans ((below_drewN w1 nq).mono hb.size)
  obtain ⟨w1, hw2⟩ : ∃ w2, w1.drewN nq = w2 := ⟨_, rfl⟩
  rw [hw2] at hb ⊢
  clear hw2
  go_wp2_with (first | (go_at_call 91; ((with_reducible refine (chain hb (C1.out _ (R.below hb))).mono ?_); clear hb; rintro e w1 ⟨rfl, hb⟩)) | (go_at_call 92; first | ((with_reducible refine (chain hb (C2.out _ (R.below hb))).mono ?_); clear hb; rintro e w1 ⟨rfl, hb⟩) | ((with_reducible refine (chain hb (C3.out _ (R.below hb))).mono ?_); clear hb; rintro e w1 ⟨rfl, hb⟩)) | (go_at_call 93; first | ((with_reducible refine (chain hb (C4.out _ (R.below hb))).mono ?_); clear hb; rintro e w1 ⟨rfl, hb⟩) | ((with_reducible refine (chain hb (C5.out _ (R.below hb))).mono ?_); clear hb; rintro e w1 ⟨rfl, hb⟩)) | (go_at_call 27; ((with_reducible refine (chain hb (C6.out _ (R.below hb))).mono ?_); clear hb; rintro e w1 ⟨rfl, hb⟩)) | (go_at_call 26; ((with_reducible refine (chain hb (C7.out _ (R.below hb))).mono ?_); clear hb; rintro e w1 ⟨rfl, hb⟩)))
  go_ret2
  exact ⟨rfl, hb⟩
set_option maxRecDepth 100000 in
set_option maxHeartbeats 1000000 in
theorem rp_mdy (s : ByteArray) (h0 : 0 < s.size) (hs : s.size ≤ 1000000) (T : ByteArray) (hT : T.size ≤ 1000000) (hx : s.extract 1 s.size = T) (hp : ((s[0].toNat : Int) == 43) = false) (hm : ((s[0].toNat : Int) == 45) = true) (m0 m z m2 res : ByteArray) (a r : ByteArray) (k : Nat) (hk : k < T.size) (ha : T.extract 0 k = a) (hr : T.extract (k + 1) T.size = r) (has : a.size ≤ 1000000) (hrs : r.size ≤ 1000000) (t47 : ((T[k].toNat : Int) == 47) = false) (t46 : ((T[k].toNat : Int) == 46) = true) (hl : (s.size : Int) ≤ 200) (hz : z.size ≤ 1000000) (hd : ((⟨#[49]⟩ ++ z).toList == [48]) = false) (c1 : (∀ w, EnvR w → Calls Tryz.prog 91 #[.string T, .string ⟨#[47, 46]⟩] w fun e w' => e = .returned (.int .i64 (k : Int)) ∧ Below w.heap.size w w')) (c2 : (∀ w, EnvR w → Calls Tryz.prog 92 #[.string a] w fun e w' => e = .returned (.bool true) ∧ Below w.heap.size w w')) (c3 : (∀ w, EnvR w → Calls Tryz.prog 92 #[.string r] w fun e w' => e = .returned (.bool true) ∧ Below w.heap.size w w')) (c4 : (∀ w, EnvR w → Calls Tryz.prog 93 #[.string a] w fun e w' => e = .returned (.string m0) ∧ Below w.heap.size w w')) (c5 : (∀ w, EnvR w → Calls Tryz.prog 93 #[.string (a ++ r)] w fun e w' => e = .returned (.string m) ∧ Below w.heap.size w w')) (c6 : (∀ w, EnvR w → Calls Tryz.prog 27 #[.string ⟨#[48]⟩, .int .i64 (r.size : Int)] w fun e w' => e = .returned (.string z) ∧ Below w.heap.size w w')) (c7 : (∀ w, EnvR w → Calls Tryz.prog 80 #[.string m] w fun e w' => e = .returned (.string m2) ∧ Below w.heap.size w w')) (c8 : (∀ w, EnvR w → Calls Tryz.prog 26 #[.string m2, .string (⟨#[49]⟩ ++ z)] w fun e w' => e = .returned (.string res) ∧ Below w.heap.size w w')) (w : World) (R : EnvR w) :
    Calls Tryz.prog 29 #[.string s] w fun e w' => e = .returned (.tuple #[.string res, .int .i64 0]) ∧ Below w.heap.size w w' := by
  have C1 := Lib.hid c1
  have C2 := Lib.hid c2
  have C3 := Lib.hid c3
  have C4 := Lib.hid c4
  have C5 := Lib.hid c5
  have C6 := Lib.hid c6
  have C7 := Lib.hid c7
  have C8 := Lib.hid c8
  clear c1 c2 c3 c4 c5 c6 c7 c8
  have h0' : (0 : Int) < (s.size : Int) := by omega
  have he := eqnil_false s h0
  have he2 := empty_false s h0
  have hk' : (k : Int) < (T.size : Int) := by omega
  have hb := Below.refl w.heap.size w
  go_enter Tryz.func29, Tryz.ntmps29
  go_wp2_with (first | (go_at_call 91; ((with_reducible refine (chain hb (C1.out _ (R.below hb))).mono ?_); clear hb; rintro e w1 ⟨rfl, hb⟩)) | (go_at_call 92; first | ((with_reducible refine (chain hb (C2.out _ (R.below hb))).mono ?_); clear hb; rintro e w1 ⟨rfl, hb⟩) | ((with_reducible refine (chain hb (C3.out _ (R.below hb))).mono ?_); clear hb; rintro e w1 ⟨rfl, hb⟩)) | (go_at_call 93; first | ((with_reducible refine (chain hb (C4.out _ (R.below hb))).mono ?_); clear hb; rintro e w1 ⟨rfl, hb⟩) | ((with_reducible refine (chain hb (C5.out _ (R.below hb))).mono ?_); clear hb; rintro e w1 ⟨rfl, hb⟩)) | (go_at_call 27; ((with_reducible refine (chain hb (C6.out _ (R.below hb))).mono ?_); clear hb; rintro e w1 ⟨rfl, hb⟩)) | (go_at_call 80; ((with_reducible refine (chain hb (C7.out _ (R.below hb))).mono ?_); clear hb; rintro e w1 ⟨rfl, hb⟩)) | (go_at_call 26; ((with_reducible refine (chain hb (C8.out _ (R.below hb))).mono ?_); clear hb; rintro e w1 ⟨rfl, hb⟩)))
  go_quiet (fail)
  replace hb := hb.trans ((below_drewN w1 nq).mono hb.size)
  obtain ⟨w1, hw2⟩ : ∃ w2, w1.drewN nq = w2 := ⟨_, rfl⟩
  rw [hw2] at hb ⊢
  clear hw2
  go_wp2_with (first | (go_at_call 91; ((with_reducible refine (chain hb (C1.out _ (R.below hb))).mono ?_); clear hb; rintro e w1 ⟨rfl, hb⟩)) | (go_at_call 92; first | ((with_reducible refine (chain hb (C2.out _ (R.below hb))).mono ?_); clear hb; rintro e w1 ⟨rfl, hb⟩) | ((with_reducible refine (chain hb (C3.out _ (R.below hb))).mono ?_); clear hb; rintro e w1 ⟨rfl, hb⟩)) | (go_at_call 93; first | ((with_reducible refine (chain hb (C4.out _ (R.below hb))).mono ?_); clear hb; rintro e w1 ⟨rfl, hb⟩) | ((with_reducible refine (chain hb (C5.out _ (R.below hb))).mono ?_); clear hb; rintro e w1 ⟨rfl, hb⟩)) | (go_at_call 27; ((with_reducible refine (chain hb (C6.out _ (R.below hb))).mono ?_); clear hb; rintro e w1 ⟨rfl, hb⟩)) | (go_at_call 80; ((with_reducible refine (chain hb (C7.out _ (R.below hb))).mono ?_); clear hb; rintro e w1 ⟨rfl, hb⟩)) | (go_at_call 26; ((with_reducible refine (chain hb (C8.out _ (R.below hb))).mono ?_); clear hb; rintro e w1 ⟨rfl, hb⟩)))
  go_ret2
  exact ⟨rfl, hb⟩
end Go.Proofs.YtgllflfifbacnaaGreatDoor.Kl
