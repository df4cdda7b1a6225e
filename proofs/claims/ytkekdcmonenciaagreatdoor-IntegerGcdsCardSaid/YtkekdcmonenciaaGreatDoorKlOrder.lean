/- The order of integers by their texts: length, then bytes; and cmp.Or of two. -/
import Derived.Test.YtkekdcmonenciaaGreatDoorKlSign
namespace Go.Proofs.YtkekdcmonenciaaGreatDoor.Kl
open Go Go.RowKit

theorem cmp_digs : ∀ (l m : List UInt8), l.length = m.length → l.all isDig = true → m.all isDig = true → Lib.compareBytes l m = Lib.compareInt (val l) (val m)
  | [], [], _, _, _ => rfl
  | [], _ :: _, h, _, _ => by simp at h
  | _ :: _, [], h, _, _ => by simp at h
  | a :: al, b :: bl, h, ha, hb => by
    rw [List.all_cons, Bool.and_eq_true] at ha hb
    have hl : al.length = bl.length := by simpa using h
    have ih := cmp_digs al bl hl ha.2 hb.2
    have h1 := val_lt al ha.2
    have h2 := val_lt bl hb.2
    rw [← hl] at h2
    have da := ha.1
    have db := hb.1
    unfold isDig at da db
    rw [Bool.and_eq_true, decide_eq_true_iff, decide_eq_true_iff] at da db
    show (if a < b then (-1 : Int) else if b < a then 1 else Lib.compareBytes al bl) = _
    rw [val_cons, val_cons, ← hl]
    obtain ⟨P, hP⟩ : ∃ P, 10 ^ al.length = P := ⟨_, rfl⟩
    rw [hP] at h1 h2 ⊢
    have key : ∀ u v : Nat, u < v → u * P + P ≤ v * P := fun u v huv => by
      have := Nat.mul_le_mul_right P (show u + 1 ≤ v by omega)
      rwa [Nat.add_mul, Nat.one_mul] at this
    unfold Lib.compareInt
    by_cases c1 : a < b
    · have c1' : a.toNat < b.toNat := UInt8.lt_iff_toNat_lt.1 c1
      have := key (a.toNat - 48) (b.toNat - 48) (by omega)
      rw [if_pos c1, if_pos (by omega)]
    · by_cases c2 : b < a
      · have c2' : b.toNat < a.toNat := UInt8.lt_iff_toNat_lt.1 c2
        have := key (b.toNat - 48) (a.toNat - 48) (by omega)
        rw [if_neg c1, if_pos c2, if_neg (by omega), if_pos (by omega)]
      · have e : a = b := UInt8.toNat.inj (by
          have h1 : ¬ a.toNat < b.toNat := fun h => c1 (UInt8.lt_iff_toNat_lt.2 h)
          have h2 : ¬ b.toNat < a.toNat := fun h => c2 (UInt8.lt_iff_toNat_lt.2 h)
          omega)
        rw [if_neg c1, if_neg c2, ih, e]
        unfold Lib.compareInt
        by_cases d1 : val al < val bl
        · rw [if_pos (by omega), if_pos (by omega)]
        · by_cases d2 : val bl < val al
          · rw [if_neg (by omega), if_pos (by omega), if_neg (by omega), if_pos (by omega)]
          · rw [if_neg (by omega), if_neg (by omega), if_neg (by omega), if_neg (by omega)]
def orI (x y : Int) : Int := if x = 0 then y else x
set_option maxRecDepth 100000 in
set_option maxHeartbeats 1000000 in
theorem or_two (b o c : Nat) (x y : Int) (w : World) (h0 : w.cell? ⟨b, o, none⟩ = some (.int .i64 x)) (h1 : w.cell? ⟨b, o + 1, none⟩ = some (.int .i64 y)) :
    Calls Tryz.prog 64 #[.slice (some ⟨b, o, none⟩) 2 c] w fun e w' => e = .returned (.int .i64 (orI x y)) ∧ Below w.heap.size w w' := by
  unfold orI
  by_cases hx : x = 0
  · rw [if_pos hx]
    subst hx
    by_cases hy : y = 0
    · subst hy
      go_enter Tryz.func64, Tryz.ntmps64
      go_wp2
      refine wp_loop_rounds 3 ?_
      rw [rounds_succ]
      go_wp2
      rw [rounds_succ]
      go_wp2
      rw [rounds_succ]
      go_wp2
      go_ret
      exact ⟨rfl, Below.refl _ _⟩
    · have hyb : (y == 0) = false := by simpa using hy
      go_enter Tryz.func64, Tryz.ntmps64
      go_wp2
      refine wp_loop_rounds 2 ?_
      rw [rounds_succ]
      go_wp2
      rw [rounds_succ]
      go_wp2
      go_ret
      exact ⟨rfl, Below.refl _ _⟩
  · rw [if_neg hx]
    have hxb : (x == 0) = false := by simpa using hx
    go_enter Tryz.func64, Tryz.ntmps64
    go_wp2
    refine wp_loop_rounds 1 ?_
    rw [rounds_succ]
    go_wp2
    go_ret
    exact ⟨rfl, Below.refl _ _⟩
end Go.Proofs.YtkekdcmonenciaaGreatDoor.Kl
