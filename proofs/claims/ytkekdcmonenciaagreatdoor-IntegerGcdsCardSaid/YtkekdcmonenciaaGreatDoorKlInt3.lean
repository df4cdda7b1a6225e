/- Contracts of package integer's functions over ints, second part. -/
import Derived.Test.YtkekdcmonenciaaGreatDoorKlInt2
namespace Go.Proofs.YtkekdcmonenciaaGreatDoor.Kl
open Go Go.RowKit

theorem retIIB {k : IntKind} {a b c d : Int} {x y : Bool} (h : a = b) (g : c = d) (i : x = y) : Ending.returned (.tuple #[.int k a, .int k c, .bool x]) = .returned (.tuple #[.int k b, .int k d, .bool y]) := by rw [h, g, i]
theorem retII {k : IntKind} {a b c d : Int} (h : a = b) (g : c = d) : Ending.returned (.tuple #[.int k a, .int k c]) = .returned (.tuple #[.int k b, .int k d]) := by rw [h, g]

/-- A call behind others: what was there at the first stays. -/
theorem chain {P : Program} {K : FuncId} {args : Array Value} {w w0 : World} {v : Value} (hb : Below w0.heap.size w0 w)
    (h : Calls P K args w fun e w' => e = .returned v ∧ Below w.heap.size w w') : Calls P K args w fun e w' => e = .returned v ∧ Below w0.heap.size w0 w' :=
  h.mono fun _ _ ⟨a, b⟩ => ⟨a, hb.trans (b.mono hb.size)⟩
theorem chainq {P : Program} {K : FuncId} {args : Array Value} {w w0 : World} {v : Value} (hb : Below w0.heap.size w0 w)
    (h : Calls P K args w fun e w' => e = .returned v ∧ w = w') : Calls P K args w fun e w' => e = .returned v ∧ Below w0.heap.size w0 w' :=
  h.mono fun _ _ ⟨a, b⟩ => ⟨a, by rw [← b]; exact hb⟩
theorem Below.drews {B : Nat} {a w : World} (h : Below B a w) (n : Nat) : Below B a (w.drewN n) := ⟨h.os, h.tape, h.output, h.size, h.block⟩

set_option maxHeartbeats 400000 in
/-- Both are ints, of at most 18 bytes each. -/
theorem ints_short (s t : ByteArray) (w : World) (hs : s.size ≤ 18) (ht : t.size ≤ 18) (x y : Int) (hx : smallV s.data.toList = some x) (hy : smallV t.data.toList = some y) (E : Env w) :
    Calls Tryz.prog 36 #[.string s, .string t] w fun e w' => e = .returned (.tuple #[.int .i64 x, .int .i64 y, .bool true]) ∧ Below w.heap.size w w' := by
  have HX : Hid (smI s.data.toList = x) := by show smI _ = _; unfold smI; rw [hx]; rfl
  have HY : Hid (smI t.data.toList = y) := by show smI _ = _; unfold smI; rw [hy]; rfl
  have bx : smB s.data.toList = true := by unfold smB; rw [hx]; rfl
  have by' : smB t.data.toList = true := by unfold smB; rw [hy]; rfl
  clear hx hy
  have hb := Below.refl w.heap.size w
  go_enter Tryz.func36, Tryz.ntmps36
  go_wp2_with (go_at_call 68; refine (chain hb (small_any _ _ (by omega) (E.below hb))).mono ?_; clear hb; rintro e w1 ⟨rfl, hb⟩)
  go_ret3
  exact ⟨retIIB HX.out HY.out rfl, hb⟩

theorem tdiv_facts (x y : Int) (hx0 : -1000000000000000000 < x) (hx1 : x < 1000000000000000000) (hy : y ≠ 0) :
    -1000000000000000000 < x.tdiv y ∧ x.tdiv y < 1000000000000000000 ∧ (0 < y → -y < x.tmod y ∧ x.tmod y < y) ∧ (y < 0 → y < x.tmod y ∧ x.tmod y < -y) := by
  have h1 := Int.natAbs_tmod x y
  have h2 : (x.tdiv y).natAbs = x.natAbs / y.natAbs := Int.natAbs_tdiv x y
  have h3 : x.natAbs / y.natAbs ≤ x.natAbs := Nat.div_le_self _ _
  have h4 : x.natAbs % y.natAbs < y.natAbs := Nat.mod_lt _ (by omega)
  omega
theorem euclid_minus {x y : Int} (h : 0 < y) (hr : x.tmod y < 0) (hb : -y < x.tmod y) : x.tdiv y - 1 = x / y ∧ x.tmod y + y = x % y := by
  have e := Int.tmod_add_mul_tdiv x y
  have := (Int.ediv_emod_unique h (a := x) (r := x.tmod y + y) (q := x.tdiv y - 1)).2 ⟨by rw [Int.mul_sub]; omega, by omega, by omega⟩
  exact ⟨this.1.symm, this.2.symm⟩
theorem euclid_plus {x y : Int} (h : y < 0) (hr : x.tmod y < 0) (hb : y < x.tmod y) : x.tdiv y + 1 = x / y ∧ x.tmod y - y = x % y := by
  have e := Int.tmod_add_mul_tdiv x y
  have := (Int.ediv_emod_unique' h (a := x) (r := x.tmod y - y) (q := x.tdiv y + 1)).2 ⟨by rw [Int.mul_add]; omega, by omega, by omega⟩
  exact ⟨this.1.symm, this.2.symm⟩
theorem euclid_zero {x y : Int} (hy : y ≠ 0) (hr : 0 ≤ x.tmod y) (h1 : 0 < y → x.tmod y < y) (h2 : y < 0 → x.tmod y < -y) : x.tdiv y = x / y ∧ x.tmod y = x % y := by
  have e := Int.tmod_add_mul_tdiv x y
  rcases Int.lt_or_gt_of_ne hy with h | h
  · have := (Int.ediv_emod_unique' h (a := x) (r := x.tmod y) (q := x.tdiv y)).2 ⟨by omega, by omega, by omega⟩
    exact ⟨this.1.symm, this.2.symm⟩
  · have := (Int.ediv_emod_unique h (a := x) (r := x.tmod y) (q := x.tdiv y)).2 ⟨by omega, by omega, by omega⟩
    exact ⟨this.1.symm, this.2.symm⟩

set_option maxHeartbeats 400000 in
/-- Euclid's division. -/
theorem divideInts_any (x y : Int) (w : World) (hx0 : -1000000000000000000 < x) (hx1 : x < 1000000000000000000) (hy0 : -1000000000000000000 < y) (hy1 : y < 1000000000000000000) (hy : y ≠ 0) :
    Calls Tryz.prog 53 #[.int .i64 x, .int .i64 y] w fun e w' => e = .returned (.tuple #[.int .i64 (x / y), .int .i64 (x % y)]) ∧ Below w.heap.size w w' := by
  have hy' : (y == 0) = false := by simpa using hy
  obtain ⟨q0, q1, r0, r1⟩ := tdiv_facts x y hx0 hx1 hy
  have q2 : wrap64 (x.tdiv y) = x.tdiv y := IntWalk.wrap64_in _ ⟨by omega, by omega⟩
  have r2 : -1000000000000000000 < x.tmod y := by omega
  have r3 : x.tmod y < 1000000000000000000 := by omega
  have HR0 := Lib.hid r0
  have HR1 := Lib.hid r1
  clear r0 r1
  go_enter Tryz.func53, Tryz.ntmps53
  go_wp2
  go_quiet (fail)
  go_wp2
  · have e := euclid_minus (x := x) (y := y) (by assumption) (by assumption) (HR0.out (by assumption)).1
    go_ret2
    exact ⟨retII e.1 e.2, below_drewN _ _⟩
  · have hz : y < 0 := by omega
    have e := euclid_plus (x := x) (y := y) hz (by assumption) (HR1.out hz).1
    go_ret2
    exact ⟨retII e.1 e.2, below_drewN _ _⟩
  · have e := euclid_zero (x := x) (y := y) hy (by assumption) (fun h => (HR0.out h).2) (fun h => (HR1.out h).2)
    go_ret2
    exact ⟨retII e.1 e.2, below_drewN _ _⟩

set_option maxHeartbeats 400000 in
theorem gcdInts_any (x y : Nat) (w : World) (hx1 : x < 1000000000000000000) (hy1 : y < 1000000000000000000) :
    Calls Tryz.prog 58 #[.int .i64 x, .int .i64 y] w fun e w' => e = .returned (.int .i64 (Nat.gcd x y)) ∧ Below w.heap.size w w' := by
  go_enter Tryz.func58, Tryz.ntmps58
  go_wp2
  go_loopw [0, 1] (fun a b wr => ∃ m n : Nat, a = .int .i64 m ∧ b = .int .i64 n ∧ m < 1000000000000000000 ∧ n < 1000000000000000000 ∧ Nat.gcd m n = Nat.gcd x y ∧ Below w.heap.size w wr) (fun _ b _ => (intOf b).toNat)
  case atStart => exact ⟨x, y, rfl, rfl, hx1, hy1, rfl, Below.refl _ _⟩
  case round =>
    obtain ⟨m, n, rfl, rfl, hm, hn, hg, hb⟩ := hrel
    have HG := Lib.hid hg
    clear hg
    by_cases h0 : n = 0
    · subst h0
      go_wp2
      go_ret
      exact ⟨retI (by rw [← HG.out]; simp), hb⟩
    · have hne : ((n : Int) == 0) = false := by simpa using h0
      have hpos : (0 : Int) < (n : Int) := by omega
      go_wp2
      go_quiet (fail)
      go_wp2
      go_roundw
      case rel => exact ⟨n, m % n, rfl, by go_num, hn, by have := Nat.mod_lt m (Nat.pos_of_ne_zero h0); omega, by rw [← HG.out, Nat.gcd_comm m n, Nat.gcd_rec n m, Nat.gcd_comm]; done, Below.drews hb _⟩
      case measure => simp [intOf]; have := Int.emod_lt_of_pos (m : Int) hpos; omega
end Go.Proofs.YtkekdcmonenciaaGreatDoor.Kl
