/- Contracts: slices.Backward over pieces, for every loop body. -/
import Derived.Test.YtkekdcmonenciaaGreatDoorKlText
import Derived.Test.YtkekdcmonenciaaGreatDoorKlBig
namespace Go.Proofs.YtkekdcmonenciaaGreatDoor.Kl
open Go Go.RowKit Go.Shelf

attribute [local go_sem] Oper.semAt_some

/-- What a round keeps: whatever lay below n₀, and the iterator's own block. -/
def KpB (n₀ Bs : Nat) (A B : World) : Prop := Below n₀ A B ∧ B.heap[Bs]? = A.heap[Bs]?
theorem kpB_t {n₀ Bs : Nat} {A B C : World} (h : KpB n₀ Bs A B) (k : KpB n₀ Bs B C) : KpB n₀ Bs A C := ⟨h.1.trans k.1, k.2.trans h.2⟩
theorem kpB_b {n₀ Bs : Nat} {w : World} (hn : n₀ ≤ w.heap.size) (hB : Bs < w.heap.size) (W : World) (l : Nat) (o o' : Obj) (hl : w.heap.size ≤ l) (h : W.heap[l]? = some o) (h1 : o.isCells = false) (h2 : o.isWalk = false) : KpB n₀ Bs W (W.putObj l o') :=
  ⟨belowK_b hn W l o o' hl h h1 h2, World.putObj_heap_other (by omega)⟩
/-- The first t places, from the last one down. -/
def bl (k t : Nat) : List Nat := (List.range t).map fun i => k - 1 - i
theorem bl_length (k t : Nat) : (bl k t).length = t := by unfold bl; simp
theorem bl_succ (k t : Nat) : bl k (t + 1) = bl k t ++ [k - 1 - t] := by unfold bl; rw [List.range_succ, List.map_append]; rfl

set_option maxRecDepth 100000 in
set_option maxHeartbeats 2000000 in
theorem backwardk_in (l Bs b o k c n₀ : Nat) (xs : List Int) (n : Nat) (_hn : 1 ≤ n) (J Jx : List Nat → World → Prop) (hk : k ≤ 1000000) (hb : b < n₀)
    (hY : ∀ pre (x : Nat) W1, J pre W1 → pre.length < k → YieldAt Fence.wide (n - 1) Tryz.prog l #[Value.int .i64 (x : Int), Value.int .i64 (xs[x]?.getD 0)] W1 fun e W' =>
      (e = .returned (.bool true) ∧ J (pre ++ [x]) W' ∧ KpB n₀ Bs W1 W') ∨ (e = .returned (.bool false) ∧ Jx (pre ++ [x]) W'))
    (W : World) (hBs : W.cell? ⟨Bs, 0, none⟩ = some (.slice (some ⟨b, o, none⟩) k c)) (hcell : ∀ i, i < k → W.cell? ⟨b, o + i, none⟩ = some (.int .i64 (xs[i]?.getD 0))) (h0 : J [] W) :
    CallsIn Fence.wide n Tryz.prog 97 #[.func (.yield l) #[] #[], .pointer (some ⟨Bs, 0, none⟩)] W fun e W' => (∃ v, e = .returned v) ∧
      ((∃ ys, ys = bl k k ∧ J ys W') ∨ (∃ pre : List Nat, True ∧ Jx pre W')) := by
  have HC := Lib.hid hcell
  have HY := Lib.hid hY
  clear hcell hY
  refine callsIn_of_wp Tryz.func97 rfl trivial ?_ rfl
  simp only [Tryz.ntmps97, List.size_toArray, List.length_cons, List.length_nil, Nat.reduceAdd, Nat.reduceSub, Array.replicate_succ, Array.replicate_zero, List.push_toArray, List.append_toArray, List.nil_append, List.cons_append]
  gi_wp2
  gi_loopw [3] (fun i wr => ∃ j : Nat, j ≤ k ∧ i = .int .i64 ((j : Int) - 1) ∧ J (bl k (k - j)) wr ∧ wr.cell? ⟨Bs, 0, none⟩ = some (.slice (some ⟨b, o, none⟩) k c) ∧ ∀ i, i < k → wr.cell? ⟨b, o + i, none⟩ = some (.int .i64 (xs[i]?.getD 0))) (fun i _ => (intOf i + 1).toNat)
  case atStart => exact ⟨k, Nat.le_refl _, rfl, by rw [Nat.sub_self]; exact h0, hBs, HC.out⟩
  case round =>
    obtain ⟨j, hj, rfl, hJs, hbs, hcs⟩ := hrel
    have HCS := Lib.hid hcs
    have HJ := Lib.hid hJs
    clear hcs hJs HC h0 hBs
    by_cases hz : j = 0
    · subst hz
      gi_wp2
      go_end0
      exact ⟨⟨_, rfl⟩, .inl ⟨_, rfl, HJ.out⟩⟩
    · obtain ⟨i, rfl⟩ : ∃ i, j = i + 1 := ⟨j - 1, by omega⟩
      have hi := HCS.out i (by omega)
      have hik : (i : Int) < (k : Int) := by omega
      have hbl := bl_succ k (k - (i + 1))
      rw [show k - (i + 1) + 1 = k - i by omega, show k - 1 - (k - (i + 1)) = i by omega] at hbl
      obtain ⟨x, hx⟩ : ∃ x, xs[i]?.getD 0 = x := ⟨_, rfl⟩
      obtain ⟨fn, tmps, assign, body, hy, hR⟩ := HY.out (bl k (k - (i + 1))) i wr HJ.out (by rw [bl_length]; omega)
      rw [hx] at hi hy
      have HBL := Lib.hid hbl
      have HR := Lib.hid hR
      clear hbl hx hR
      gi_wp2
      refine HR.out.mono ?_
      rintro e W3 (⟨rfl, hJ3, hk3⟩ | ⟨rfl, hJx3⟩)
      · have HK := Lib.hid hk3
        have HJ3 := Lib.hid hJ3
        clear hk3 hJ3
        gi_wp2
        go_roundw
        case rel => exact ⟨i, by omega, by go_num, by rw [HBL.out]; exact HJ3.out, (World.cell?_of_block (a := ⟨Bs, 0, none⟩) HK.out.2).trans hbs, fun t ht => (HK.out.1.cell (p := ⟨b, o + t, none⟩) hb).trans (HCS.out t ht)⟩
        case measure => simp [intOf]
      · gi_wp2
        refine bodyPost_ret (results_none rfl _ _ _) rfl ?_
        exact ⟨⟨_, rfl⟩, .inr ⟨_, trivial, hJx3⟩⟩
theorem backwardk_stops (n Bs b o k c n₀ : Nat) (xs : List Int) (w : World) (hn : 1 ≤ n) (hk : k ≤ 1000000) (hb : b < n₀) (hnw : n₀ ≤ w.heap.size) (hBs : Bs < w.heap.size) (hc : w.cell? ⟨Bs, 0, none⟩ = some (.slice (some ⟨b, o, none⟩) k c))
    (hcell : ∀ i, i < k → w.cell? ⟨b, o + i, none⟩ = some (.int .i64 (xs[i]?.getD 0))) :
    SeqStopsK Fence.wide n Tryz.prog 97 #[.pointer (some ⟨Bs, 0, none⟩)] (fun x : Nat => #[Value.int .i64 (x : Int), Value.int .i64 (xs[x]?.getD 0)]) (KpB n₀ Bs) (fun ys => ys = bl k k) (fun _ => True) k w := fun l J Jx W hW _ _ hY h0 =>
  backwardk_in l Bs b o k c n₀ xs n hn J Jx hk hb hY W ((hW.cell (p := ⟨Bs, 0, none⟩) hBs).trans hc) (fun i hi => (hW.cell (p := ⟨b, o + i, none⟩) (by show b < _; omega)).trans (hcell i hi)) h0
end Go.Proofs.YtkekdcmonenciaaGreatDoor.Kl
