/- Contract: the reference's text with decimal places. -/
import Derived.Test.YtgllflfifbacnaaGreatDoorKlRatI
import Derived.Test.YtgllflfifbacnaaGreatDoorKlRatQ
namespace Go.Proofs.YtgllflfifbacnaaGreatDoor.Kl
open Go Go.RowKit

def strLen' : Value → Nat | .string t => t.size | _ => 0
set_option maxRecDepth 100000 in
set_option maxHeartbeats 2000000 in
theorem refDec_zf (s z n0 m dg T : ByteArray) (p : Nat) (P : ByteArray → Prop) (hp1 : p ≤ 12) (hp0 : p = 0) (hT : T.size ≤ 3000) (hz : z.size ≤ 100) (P0 : P dg) (Pst : ∀ t, P t → t.size ≤ p → P (⟨#[48]⟩ ++ t)) (Pend : ∀ t, P t → ¬ t.size ≤ p → t = T) (Psz : ∀ t, P t → t.size ≤ 1000) (c1' : (∀ w, EnvR w → Calls Tryz.prog 27 #[.string ⟨#[48]⟩, .int .i64 (p : Int)] w fun e w' => e = .returned (.string z) ∧ Below w.heap.size w w')) (c2' : (∀ w, EnvR w → Calls Tryz.prog 34 #[.string s, .string (⟨#[49]⟩ ++ z)] w fun e w' => e = .returned (.string m) ∧ Below w.heap.size w w')) (c3' : (∀ w, EnvR w → Calls Tryz.prog 33 #[.string m] w fun e w' => e = .returned (.string n0) ∧ Below w.heap.size w w')) (c4' : (∀ w, EnvR w → Calls Tryz.prog 71 #[.string n0] w fun e w' => e = .returned (.tuple #[.bool false, .string dg]) ∧ Below w.heap.size w w')) (w : World) (R : EnvR w) :
    Calls Tryz.prog 32 #[.string s, .int .i64 (p : Int)] w fun e w' => e = .returned (.string (T)) ∧ Below w.heap.size w w' := by
  have c1 : ∀ w, EnvR w → Calls Tryz.prog 27 #[.string ⟨#[48]⟩, .int .i64 (p : Int)] w fun e w' => e = .returned (.string z) ∧ Below w.heap.size w w' := fun w R => c1' w R
  have c2 : ∀ w, EnvR w → Calls Tryz.prog 34 #[.string s, .string (⟨#[49]⟩ ++ z)] w fun e w' => e = .returned (.string m) ∧ Below w.heap.size w w' := fun w R => c2' w R
  have c3 : ∀ w, EnvR w → Calls Tryz.prog 33 #[.string m] w fun e w' => e = .returned (.string n0) ∧ Below w.heap.size w w' := fun w R => c3' w R
  have c4 : ∀ w, EnvR w → Calls Tryz.prog 71 #[.string n0] w fun e w' => e = .returned (.tuple #[.bool false, .string dg]) ∧ Below w.heap.size w w' := fun w R => c4' w R
  have C1 := Lib.hid c1
  have C2 := Lib.hid c2
  have C3 := Lib.hid c3
  have C4 := Lib.hid c4
  clear c1 c2 c3 c4 c1' c2' c3' c4'
  have HP0 := Lib.hid P0
  have HPS := Lib.hid Pst
  have HPE := Lib.hid Pend
  have HPZ := Lib.hid Psz
  clear P0 Pst Pend Psz
  have HZ0 := Lib.hid hp0
  clear hp0
  have hb := Below.refl w.heap.size w
  go_enter Tryz.func32, Tryz.ntmps32
  go_wp2_with (first | (go_at_call 27; ((with_reducible refine (chain hb (C1.out _ (R.below hb))).mono ?_); clear hb; rintro e w1 ⟨rfl, hb⟩)) | (go_at_call 34; ((with_reducible refine (chain hb (C2.out _ (R.below hb))).mono ?_); clear hb; rintro e w1 ⟨rfl, hb⟩)) | (go_at_call 33; ((with_reducible refine (chain hb (C3.out _ (R.below hb))).mono ?_); clear hb; rintro e w1 ⟨rfl, hb⟩)) | (go_at_call 71; ((with_reducible refine (chain hb (C4.out _ (R.below hb))).mono ?_); clear hb; rintro e w1 ⟨rfl, hb⟩)))
  obtain ⟨wo, ewo⟩ : ∃ wo, w1 = wo := ⟨_, rfl⟩
  subst ewo
  go_loop [7] (fun v => ∃ t : ByteArray, v = .string t ∧ P t) (fun v => p + 1 - strLen' v)
  case atStart => exact ⟨dg, rfl, HP0.out⟩
  case round =>
    obtain ⟨t, rfl, ht⟩ := hrel
    have hts := HPZ.out t ht
    by_cases hle : t.size ≤ p
    · have HN := Lib.hid (HPS.out t ht hle)
      have hle' : (t.size : Int) ≤ (p : Int) := by omega
      clear ht
      go_wp2
      go_round
      case rel => exact ⟨_, rfl, HN.out⟩
      case measure =>
        show p + 1 - (⟨#[48]⟩ ++ t : ByteArray).size < p + 1 - t.size
        have hsz : (⟨#[48]⟩ ++ t : ByteArray).size = 1 + t.size := ByteArray.size_append
        rw [hsz]; omega
    · obtain rfl := HPE.out t ht hle
      have hle' : ¬ (t.size : Int) ≤ (p : Int) := by omega
      clear ht
      have hp0 : ¬ (0 : Int) < (p : Int) := by have := HZ0.out; omega
      go_wp2
      go_ret
      exact ⟨rfl, hb⟩
set_option maxRecDepth 100000 in
set_option maxHeartbeats 2000000 in
theorem refDec_zt (s z n0 m dg T : ByteArray) (p : Nat) (P : ByteArray → Prop) (hp1 : p ≤ 12) (hp0 : p = 0) (hT : T.size ≤ 3000) (hz : z.size ≤ 100) (P0 : P dg) (Pst : ∀ t, P t → t.size ≤ p → P (⟨#[48]⟩ ++ t)) (Pend : ∀ t, P t → ¬ t.size ≤ p → t = T) (Psz : ∀ t, P t → t.size ≤ 1000) (c1' : (∀ w, EnvR w → Calls Tryz.prog 27 #[.string ⟨#[48]⟩, .int .i64 (p : Int)] w fun e w' => e = .returned (.string z) ∧ Below w.heap.size w w')) (c2' : (∀ w, EnvR w → Calls Tryz.prog 34 #[.string s, .string (⟨#[49]⟩ ++ z)] w fun e w' => e = .returned (.string m) ∧ Below w.heap.size w w')) (c3' : (∀ w, EnvR w → Calls Tryz.prog 33 #[.string m] w fun e w' => e = .returned (.string n0) ∧ Below w.heap.size w w')) (c4' : (∀ w, EnvR w → Calls Tryz.prog 71 #[.string n0] w fun e w' => e = .returned (.tuple #[.bool true, .string dg]) ∧ Below w.heap.size w w')) (w : World) (R : EnvR w) :
    Calls Tryz.prog 32 #[.string s, .int .i64 (p : Int)] w fun e w' => e = .returned (.string (⟨#[45]⟩ ++ (T))) ∧ Below w.heap.size w w' := by
  have c1 : ∀ w, EnvR w → Calls Tryz.prog 27 #[.string ⟨#[48]⟩, .int .i64 (p : Int)] w fun e w' => e = .returned (.string z) ∧ Below w.heap.size w w' := fun w R => c1' w R
  have c2 : ∀ w, EnvR w → Calls Tryz.prog 34 #[.string s, .string (⟨#[49]⟩ ++ z)] w fun e w' => e = .returned (.string m) ∧ Below w.heap.size w w' := fun w R => c2' w R
  have c3 : ∀ w, EnvR w → Calls Tryz.prog 33 #[.string m] w fun e w' => e = .returned (.string n0) ∧ Below w.heap.size w w' := fun w R => c3' w R
  have c4 : ∀ w, EnvR w → Calls Tryz.prog 71 #[.string n0] w fun e w' => e = .returned (.tuple #[.bool true, .string dg]) ∧ Below w.heap.size w w' := fun w R => c4' w R
  have C1 := Lib.hid c1
  have C2 := Lib.hid c2
  have C3 := Lib.hid c3
  have C4 := Lib.hid c4
  clear c1 c2 c3 c4 c1' c2' c3' c4'
  have HP0 := Lib.hid P0
  have HPS := Lib.hid Pst
  have HPE := Lib.hid Pend
  have HPZ := Lib.hid Psz
  clear P0 Pst Pend Psz
  have HZ0 := Lib.hid hp0
  clear hp0
  have hb := Below.refl w.heap.size w
  go_enter Tryz.func32, Tryz.ntmps32
  go_wp2_with (first | (go_at_call 27; ((with_reducible refine (chain hb (C1.out _ (R.below hb))).mono ?_); clear hb; rintro e w1 ⟨rfl, hb⟩)) | (go_at_call 34; ((with_reducible refine (chain hb (C2.out _ (R.below hb))).mono ?_); clear hb; rintro e w1 ⟨rfl, hb⟩)) | (go_at_call 33; ((with_reducible refine (chain hb (C3.out _ (R.below hb))).mono ?_); clear hb; rintro e w1 ⟨rfl, hb⟩)) | (go_at_call 71; ((with_reducible refine (chain hb (C4.out _ (R.below hb))).mono ?_); clear hb; rintro e w1 ⟨rfl, hb⟩)))
  obtain ⟨wo, ewo⟩ : ∃ wo, w1 = wo := ⟨_, rfl⟩
  subst ewo
  go_loop [7] (fun v => ∃ t : ByteArray, v = .string t ∧ P t) (fun v => p + 1 - strLen' v)
  case atStart => exact ⟨dg, rfl, HP0.out⟩
  case round =>
    obtain ⟨t, rfl, ht⟩ := hrel
    have hts := HPZ.out t ht
    by_cases hle : t.size ≤ p
    · have HN := Lib.hid (HPS.out t ht hle)
      have hle' : (t.size : Int) ≤ (p : Int) := by omega
      clear ht
      go_wp2
      go_round
      case rel => exact ⟨_, rfl, HN.out⟩
      case measure =>
        show p + 1 - (⟨#[48]⟩ ++ t : ByteArray).size < p + 1 - t.size
        have hsz : (⟨#[48]⟩ ++ t : ByteArray).size = 1 + t.size := ByteArray.size_append
        rw [hsz]; omega
    · obtain rfl := HPE.out t ht hle
      have hle' : ¬ (t.size : Int) ≤ (p : Int) := by omega
      clear ht
      have hp0 : ¬ (0 : Int) < (p : Int) := by have := HZ0.out; omega
      go_wp2
      go_ret
      exact ⟨rfl, hb⟩
set_option maxRecDepth 100000 in
set_option maxHeartbeats 2000000 in
theorem refDec_mf (s z n0 m dg T : ByteArray) (p : Nat) (P : ByteArray → Prop) (hp1 : p ≤ 12) (a b : ByteArray) (K : Nat) (hp0 : 1 ≤ p) (hKb : K ≤ 2000) (hK : T.size = K + p) (ha : T.extract 0 K = a) (hb' : T.extract K (K + p) = b) (has : a.size ≤ 3000) (hbs : b.size ≤ 3000) (hz : z.size ≤ 100) (P0 : P dg) (Pst : ∀ t, P t → t.size ≤ p → P (⟨#[48]⟩ ++ t)) (Pend : ∀ t, P t → ¬ t.size ≤ p → t = T) (Psz : ∀ t, P t → t.size ≤ 1000) (c1' : (∀ w, EnvR w → Calls Tryz.prog 27 #[.string ⟨#[48]⟩, .int .i64 (p : Int)] w fun e w' => e = .returned (.string z) ∧ Below w.heap.size w w')) (c2' : (∀ w, EnvR w → Calls Tryz.prog 34 #[.string s, .string (⟨#[49]⟩ ++ z)] w fun e w' => e = .returned (.string m) ∧ Below w.heap.size w w')) (c3' : (∀ w, EnvR w → Calls Tryz.prog 33 #[.string m] w fun e w' => e = .returned (.string n0) ∧ Below w.heap.size w w')) (c4' : (∀ w, EnvR w → Calls Tryz.prog 71 #[.string n0] w fun e w' => e = .returned (.tuple #[.bool false, .string dg]) ∧ Below w.heap.size w w')) (w : World) (R : EnvR w) :
    Calls Tryz.prog 32 #[.string s, .int .i64 (p : Int)] w fun e w' => e = .returned (.string (a ++ ⟨#[46]⟩ ++ b)) ∧ Below w.heap.size w w' := by
  have c1 : ∀ w, EnvR w → Calls Tryz.prog 27 #[.string ⟨#[48]⟩, .int .i64 (p : Int)] w fun e w' => e = .returned (.string z) ∧ Below w.heap.size w w' := fun w R => c1' w R
  have c2 : ∀ w, EnvR w → Calls Tryz.prog 34 #[.string s, .string (⟨#[49]⟩ ++ z)] w fun e w' => e = .returned (.string m) ∧ Below w.heap.size w w' := fun w R => c2' w R
  have c3 : ∀ w, EnvR w → Calls Tryz.prog 33 #[.string m] w fun e w' => e = .returned (.string n0) ∧ Below w.heap.size w w' := fun w R => c3' w R
  have c4 : ∀ w, EnvR w → Calls Tryz.prog 71 #[.string n0] w fun e w' => e = .returned (.tuple #[.bool false, .string dg]) ∧ Below w.heap.size w w' := fun w R => c4' w R
  have C1 := Lib.hid c1
  have C2 := Lib.hid c2
  have C3 := Lib.hid c3
  have C4 := Lib.hid c4
  clear c1 c2 c3 c4 c1' c2' c3' c4'
  have HP0 := Lib.hid P0
  have HPS := Lib.hid Pst
  have HPE := Lib.hid Pend
  have HPZ := Lib.hid Psz
  clear P0 Pst Pend Psz
  have hb := Below.refl w.heap.size w
  go_enter Tryz.func32, Tryz.ntmps32
  go_wp2_with (first | (go_at_call 27; ((with_reducible refine (chain hb (C1.out _ (R.below hb))).mono ?_); clear hb; rintro e w1 ⟨rfl, hb⟩)) | (go_at_call 34; ((with_reducible refine (chain hb (C2.out _ (R.below hb))).mono ?_); clear hb; rintro e w1 ⟨rfl, hb⟩)) | (go_at_call 33; ((with_reducible refine (chain hb (C3.out _ (R.below hb))).mono ?_); clear hb; rintro e w1 ⟨rfl, hb⟩)) | (go_at_call 71; ((with_reducible refine (chain hb (C4.out _ (R.below hb))).mono ?_); clear hb; rintro e w1 ⟨rfl, hb⟩)))
  obtain ⟨wo, ewo⟩ : ∃ wo, w1 = wo := ⟨_, rfl⟩
  subst ewo
  go_loop [7] (fun v => ∃ t : ByteArray, v = .string t ∧ P t) (fun v => p + 1 - strLen' v)
  case atStart => exact ⟨dg, rfl, HP0.out⟩
  case round =>
    obtain ⟨t, rfl, ht⟩ := hrel
    have hts := HPZ.out t ht
    by_cases hle : t.size ≤ p
    · have HN := Lib.hid (HPS.out t ht hle)
      have hle' : (t.size : Int) ≤ (p : Int) := by omega
      clear ht
      go_wp2
      go_round
      case rel => exact ⟨_, rfl, HN.out⟩
      case measure =>
        show p + 1 - (⟨#[48]⟩ ++ t : ByteArray).size < p + 1 - t.size
        have hsz : (⟨#[48]⟩ ++ t : ByteArray).size = 1 + t.size := ByteArray.size_append
        rw [hsz]; omega
    · obtain rfl := HPE.out t ht hle
      have hle' : ¬ (t.size : Int) ≤ (p : Int) := by omega
      clear ht
      go_wp2
      go_quiet (fail)
      go_wp2
      go_ret
      exact ⟨rfl, Below.drews hb _⟩
set_option maxRecDepth 100000 in
set_option maxHeartbeats 2000000 in
theorem refDec_mt (s z n0 m dg T : ByteArray) (p : Nat) (P : ByteArray → Prop) (hp1 : p ≤ 12) (a b : ByteArray) (K : Nat) (hp0 : 1 ≤ p) (hKb : K ≤ 2000) (hK : T.size = K + p) (ha : T.extract 0 K = a) (hb' : T.extract K (K + p) = b) (has : a.size ≤ 3000) (hbs : b.size ≤ 3000) (hz : z.size ≤ 100) (P0 : P dg) (Pst : ∀ t, P t → t.size ≤ p → P (⟨#[48]⟩ ++ t)) (Pend : ∀ t, P t → ¬ t.size ≤ p → t = T) (Psz : ∀ t, P t → t.size ≤ 1000) (c1' : (∀ w, EnvR w → Calls Tryz.prog 27 #[.string ⟨#[48]⟩, .int .i64 (p : Int)] w fun e w' => e = .returned (.string z) ∧ Below w.heap.size w w')) (c2' : (∀ w, EnvR w → Calls Tryz.prog 34 #[.string s, .string (⟨#[49]⟩ ++ z)] w fun e w' => e = .returned (.string m) ∧ Below w.heap.size w w')) (c3' : (∀ w, EnvR w → Calls Tryz.prog 33 #[.string m] w fun e w' => e = .returned (.string n0) ∧ Below w.heap.size w w')) (c4' : (∀ w, EnvR w → Calls Tryz.prog 71 #[.string n0] w fun e w' => e = .returned (.tuple #[.bool true, .string dg]) ∧ Below w.heap.size w w')) (w : World) (R : EnvR w) :
    Calls Tryz.prog 32 #[.string s, .int .i64 (p : Int)] w fun e w' => e = .returned (.string (⟨#[45]⟩ ++ (a ++ ⟨#[46]⟩ ++ b))) ∧ Below w.heap.size w w' := by
  have c1 : ∀ w, EnvR w → Calls Tryz.prog 27 #[.string ⟨#[48]⟩, .int .i64 (p : Int)] w fun e w' => e = .returned (.string z) ∧ Below w.heap.size w w' := fun w R => c1' w R
  have c2 : ∀ w, EnvR w → Calls Tryz.prog 34 #[.string s, .string (⟨#[49]⟩ ++ z)] w fun e w' => e = .returned (.string m) ∧ Below w.heap.size w w' := fun w R => c2' w R
  have c3 : ∀ w, EnvR w → Calls Tryz.prog 33 #[.string m] w fun e w' => e = .returned (.string n0) ∧ Below w.heap.size w w' := fun w R => c3' w R
  have c4 : ∀ w, EnvR w → Calls Tryz.prog 71 #[.string n0] w fun e w' => e = .returned (.tuple #[.bool true, .string dg]) ∧ Below w.heap.size w w' := fun w R => c4' w R
  have C1 := Lib.hid c1
  have C2 := Lib.hid c2
  have C3 := Lib.hid c3
  have C4 := Lib.hid c4
  clear c1 c2 c3 c4 c1' c2' c3' c4'
  have HP0 := Lib.hid P0
  have HPS := Lib.hid Pst
  have HPE := Lib.hid Pend
  have HPZ := Lib.hid Psz
  clear P0 Pst Pend Psz
  have hb := Below.refl w.heap.size w
  go_enter Tryz.func32, Tryz.ntmps32
  go_wp2_with (first | (go_at_call 27; ((with_reducible refine (chain hb (C1.out _ (R.below hb))).mono ?_); clear hb; rintro e w1 ⟨rfl, hb⟩)) | (go_at_call 34; ((with_reducible refine (chain hb (C2.out _ (R.below hb))).mono ?_); clear hb; rintro e w1 ⟨rfl, hb⟩)) | (go_at_call 33; ((with_reducible refine (chain hb (C3.out _ (R.below hb))).mono ?_); clear hb; rintro e w1 ⟨rfl, hb⟩)) | (go_at_call 71; ((with_reducible refine (chain hb (C4.out _ (R.below hb))).mono ?_); clear hb; rintro e w1 ⟨rfl, hb⟩)))
  obtain ⟨wo, ewo⟩ : ∃ wo, w1 = wo := ⟨_, rfl⟩
  subst ewo
  go_loop [7] (fun v => ∃ t : ByteArray, v = .string t ∧ P t) (fun v => p + 1 - strLen' v)
  case atStart => exact ⟨dg, rfl, HP0.out⟩
  case round =>
    obtain ⟨t, rfl, ht⟩ := hrel
    have hts := HPZ.out t ht
    by_cases hle : t.size ≤ p
    · have HN := Lib.hid (HPS.out t ht hle)
      have hle' : (t.size : Int) ≤ (p : Int) := by omega
      clear ht
      go_wp2
      go_round
      case rel => exact ⟨_, rfl, HN.out⟩
      case measure =>
        show p + 1 - (⟨#[48]⟩ ++ t : ByteArray).size < p + 1 - t.size
        have hsz : (⟨#[48]⟩ ++ t : ByteArray).size = 1 + t.size := ByteArray.size_append
        rw [hsz]; omega
    · obtain rfl := HPE.out t ht hle
      have hle' : ¬ (t.size : Int) ≤ (p : Int) := by omega
      clear ht
      go_wp2
      go_quiet (fail)
      go_wp2
      go_ret
      exact ⟨rfl, Below.drews hb _⟩
theorem ten_rat (p : Nat) : ratB ((((10 ^ p : Nat) : Int) : Rat)) = itoaB ((10 ^ p : Nat) : Int) := ratB_int rfl
theorem refRDecimal_any (q : Rat) (p : Nat) (hp : p ≤ 12) (hq : RL q 300) (w : World) (R : EnvR w) :
    Calls Tryz.prog 32 #[.string (ratB q), .int .i64 (p : Int)] w fun e w' => e = .returned (.string (strOf (decS (q * (((10 ^ p : Nat) : Int) : Rat) + Rat.divInt 1 2).floor p))) ∧ Below w.heap.size w w' := by
  obtain ⟨n, hn⟩ : ∃ n, (q * (((10 ^ p : Nat) : Int) : Rat) + Rat.divInt 1 2).floor = n := ⟨_, rfl⟩
  have hg : dlen ((10 ^ p : Nat) : Int) ≤ 30 := by
    unfold dlen; rw [Int.natAbs_natCast, dec_pow]; simp; omega
  have hnl : dlen n ≤ 340 := by rw [← hn]; exact near_dlen' q _ 300 (by decide) hq hg
  have c1 : ∀ w, EnvR w → Calls Tryz.prog 27 #[.string ⟨#[48]⟩, .int .i64 (p : Int)] w fun e w' => e = .returned (.string (strOf (List.replicate p 48))) ∧ Below w.heap.size w w' := fun w _ => repeat_call p (by omega) w
  have c2 : ∀ w, EnvR w → Calls Tryz.prog 34 #[.string (ratB q), .string (⟨#[49]⟩ ++ strOf (List.replicate p 48))] w fun e w' => e = .returned (.string (ratB (q * (((10 ^ p : Nat) : Int) : Rat)))) ∧ Below w.heap.size w w' := fun w R => by
    rw [pow_text, ← ten_rat]; exact refRMul_any q _ w R (hq.mono (by decide)) ((RL_int _ 30 (by decide) hg).mono (by decide))
  have c3 : ∀ w, EnvR w → Calls Tryz.prog 33 #[.string (ratB (q * (((10 ^ p : Nat) : Int) : Rat)))] w fun e w' => e = .returned (.string (itoaB n)) ∧ Below w.heap.size w w' := fun w R => by
    rw [← hn]; exact refNearest_any _ ((RL_mul (by decide) hq (RL_int _ 30 (by decide) hg)).mono (by decide)) w R
  have hdg : magB (itoaB n) = strOf (Lib.decDigits n.natAbs) := dat_inj (by show mag (Lib.itoa n) = _; rw [mag_itoa]; rfl)
  have c4 : ∀ b, decide (n < 0) = b → ∀ w, EnvR w → Calls Tryz.prog 71 #[.string (itoaB n)] w fun e w' => e = .returned (.tuple #[.bool b, .string (strOf (Lib.decDigits n.natAbs))]) ∧ Below w.heap.size w w' := fun b hb w _ => by
    have := split_any (itoaB n) w _ (neg_itoaB n)
    rwa [hdg, hb] at this
  have hdl : (Lib.decDigits n.natAbs).length ≤ 340 := hnl
  have hpos := List.length_pos_iff.2 (decDigits_ne n.natAbs)
  have z1 : (strOf (List.replicate p (48 : UInt8))).size ≤ 100 := by rw [strOf_size, List.length_replicate]; omega
  rw [hn]
  obtain ⟨dg, hdd⟩ : ∃ dg, Lib.decDigits n.natAbs = dg := ⟨_, rfl⟩
  rw [hdd] at hdl hpos
  rw [hdd] at c4
  obtain ⟨m, hm⟩ : ∃ m, p + 1 - dg.length = m := ⟨_, rfl⟩
  obtain ⟨D, hD⟩ : ∃ D, List.replicate m (48 : UInt8) ++ dg = D := ⟨_, rfl⟩
  have hDl : D.length = m + dg.length := by rw [← hD, List.length_append, List.length_replicate]
  have P0 : ∃ k, k ≤ m ∧ strOf dg = strOf (List.replicate k 48 ++ dg) := ⟨0, Nat.zero_le _, rfl⟩
  have key : ∀ k, (strOf (List.replicate k (48 : UInt8) ++ dg)).size = k + dg.length := fun k => by rw [strOf_size, List.length_append, List.length_replicate]
  have Pst : ∀ t : ByteArray, (∃ k, k ≤ m ∧ t = strOf (List.replicate k 48 ++ dg)) → t.size ≤ p → ∃ k, k ≤ m ∧ (⟨#[48]⟩ ++ t : ByteArray) = strOf (List.replicate k 48 ++ dg) := by
    rintro t ⟨k, hk, rfl⟩ h
    rw [key] at h
    exact ⟨k + 1, by omega, dat_inj (by rw [cat_data, List.replicate_succ]; rfl)⟩
  have Pend : ∀ t : ByteArray, (∃ k, k ≤ m ∧ t = strOf (List.replicate k 48 ++ dg)) → ¬ t.size ≤ p → t = strOf D := by
    rintro t ⟨k, hk, rfl⟩ h
    rw [key] at h
    rw [← hD, show k = m by omega]
  have Psz : ∀ t : ByteArray, (∃ k, k ≤ m ∧ t = strOf (List.replicate k 48 ++ dg)) → t.size ≤ 1000 := by
    rintro t ⟨k, hk, rfl⟩
    rw [key]; omega
  by_cases h0 : p = 0
  · have hm0 : m = 0 := by omega
    have eD : strOf D = strOf dg := by rw [← hD, hm0]; rfl
    by_cases hneg : n < 0
    · have e : strOf (decS n p) = ⟨#[45]⟩ ++ strOf D := dat_inj (by rw [cat_data, eD]; unfold decS; dsimp only; rw [if_pos h0, if_pos hneg, hdd]; rfl)
      rw [e]
      exact refDec_zt (ratB q) _ _ _ _ _ p _ hp h0 (by rw [strOf_size]; omega) z1 P0 Pst Pend Psz c1 c2 c3 (c4 _ (decide_eq_true hneg)) w R
    · have e : strOf (decS n p) = strOf D := dat_inj (by rw [eD]; unfold decS; dsimp only; rw [if_pos h0, if_neg hneg, hdd]; rfl)
      rw [e]
      exact refDec_zf (ratB q) _ _ _ _ _ p _ hp h0 (by rw [strOf_size]; omega) z1 P0 Pst Pend Psz c1 c2 c3 (c4 _ (decide_eq_false hneg)) w R
  · have hsz : (strOf D).size = (D.length - p) + p := by rw [strOf_size]; omega
    have ha : (strOf D).extract 0 (D.length - p) = strOf (D.take (D.length - p)) := by
      refine dat_inj ?_
      rw [← Lib.toList_data, Lib.extract_toList]
      show (D.drop 0).take (D.length - p - 0) = D.take (D.length - p)
      rw [List.drop_zero, Nat.sub_zero]
    have hb : (strOf D).extract (D.length - p) (D.length - p + p) = strOf (D.drop (D.length - p)) := by
      refine dat_inj ?_
      rw [← Lib.toList_data, Lib.extract_toList]
      show (D.drop (D.length - p)).take (D.length - p + p - (D.length - p)) = D.drop (D.length - p)
      rw [List.take_of_length_le (by rw [List.length_drop]; omega)]
    have s1 : (strOf (D.take (D.length - p))).size ≤ 3000 := by rw [strOf_size, List.length_take]; omega
    have s2 : (strOf (D.drop (D.length - p))).size ≤ 3000 := by rw [strOf_size, List.length_drop]; omega
    by_cases hneg : n < 0
    · have e : strOf (decS n p) = ⟨#[45]⟩ ++ (strOf (D.take (D.length - p)) ++ ⟨#[46]⟩ ++ strOf (D.drop (D.length - p))) := dat_inj (by
        rw [cat_data, cat_data, cat_data]; unfold decS; dsimp only; rw [if_neg h0, if_pos hneg, hdd, hm, hD]; simp [strOf])
      rw [e]
      exact refDec_mt (ratB q) _ _ _ _ _ p _ hp _ _ _ (by omega) (by omega) hsz ha hb s1 s2 z1 P0 Pst Pend Psz c1 c2 c3 (c4 _ (decide_eq_true hneg)) w R
    · have e : strOf (decS n p) = strOf (D.take (D.length - p)) ++ ⟨#[46]⟩ ++ strOf (D.drop (D.length - p)) := dat_inj (by
        rw [cat_data, cat_data]; unfold decS; dsimp only; rw [if_neg h0, if_neg hneg, hdd, hm, hD]; simp [strOf])
      rw [e]
      exact refDec_mf (ratB q) _ _ _ _ _ p _ hp _ _ _ (by omega) (by omega) hsz ha hb s1 s2 z1 P0 Pst Pend Psz c1 c2 c3 (c4 _ (decide_eq_false hneg)) w R
theorem decS_len (n : Int) (p : Nat) (hp : p ≤ 12) (hl : dlen n ≤ 150) : (decS n p).length ≤ 200 := by
  have h : (Lib.decDigits n.natAbs).length ≤ 150 := hl
  unfold decS
  dsimp only
  split
  · rw [List.length_append]; split <;> simp <;> omega
  · simp only [List.length_append, List.length_take, List.length_drop, List.length_replicate, List.length_cons, List.length_nil]
    split <;> simp <;> omega
end Go.Proofs.YtgllflfifbacnaaGreatDoor.Kl
