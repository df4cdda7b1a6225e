/- Contracts: text of a number of one piece. -/
import Derived.RangeFuncNested
import Derived.RangeFuncBound
import Derived.RangeFuncCalls
import Derived.RangeFuncLeaves
import Derived.Shelf.Abstract
import Derived.Shelf.RegionOpen
import Derived.OwnWalkIn
import Derived.TacticsInMore
import Derived.LoopNIn
import Derived.LoopIn
import Derived.StillTailTactics
import Derived.Lib.SmallJoins
import Derived.Lib.BufferRead
import Derived.Test.YtkekdcmonenciaaGreatDoorKlInt3
namespace Go.Proofs.YtkekdcmonenciaaGreatDoor.Kl
open Go Go.RowKit Go.Shelf

attribute [local go_sem] Oper.semAt_some

set_option maxRecDepth 100000 in
set_option maxHeartbeats 1000000 in
/-- The iterator over no piece at all: no round. -/
theorem backward0_in (l Bs : Nat) (p : Option Addr) (c : Nat) (n : Nat) (J : List (Int × Int) → World → Prop) (W : World) (hBs : W.cell? ⟨Bs, 0, none⟩ = some (.slice p 0 c)) (h0 : J [] W) :
    CallsIn Fence.wide n Tryz.prog 97 #[.func (.yield l) #[] #[], .pointer (some ⟨Bs, 0, none⟩)] W fun e W' => (∃ v, e = .returned v) ∧ J [] W' := by
  refine callsIn_of_wp Tryz.func97 rfl trivial ?_ rfl
  simp only [Tryz.ntmps97, List.size_toArray, List.length_cons, List.length_nil, Nat.reduceAdd, Nat.reduceSub, Array.replicate_succ, Array.replicate_zero, List.push_toArray, List.append_toArray, List.nil_append, List.cons_append]
  gi_wp2
  gi_loopw [3] (fun i wr => i = .int .i64 (-1) ∧ J [] wr) (fun _ _ => 0)
  case atStart => exact ⟨rfl, h0⟩
  case round =>
    obtain ⟨rfl, hJs⟩ := hrel
    gi_wp2
    go_end0
    exact ⟨⟨_, rfl⟩, hJs⟩

theorem backward0_stops (n Bs : Nat) (p : Option Addr) (c : Nat) (w : World) (hBs : Bs < w.heap.size) (hc : w.cell? ⟨Bs, 0, none⟩ = some (.slice p 0 c)) (n₀ : Nat) :
    SeqStopsK Fence.wide n Tryz.prog 97 #[.pointer (some ⟨Bs, 0, none⟩)] (fun x : Int × Int => #[Value.int .i64 x.1, Value.int .i64 x.2]) (Below n₀) (fun ys => ys = []) (fun _ => False) 0 w := fun l J Jx W hW _ _ hY h0 => by
  have hc' := (hW.cell (p := ⟨Bs, 0, none⟩) hBs).trans hc
  exact (backward0_in l Bs p c n J W hc' h0).mono fun e W' ⟨he, hj⟩ => ⟨he, .inl ⟨_, rfl, hj⟩⟩

set_option maxHeartbeats 1000000 in
theorem backward_in (n : Nat) (a : Option Addr) (len cap : Nat) (w : World) :
    CallsIn Fence.wide n Tryz.prog 72 #[.slice a len cap] w fun e w' => e = .returned (.func (.func 97) #[] #[.pointer (some ⟨w.heap.size, 0, none⟩)]) ∧ w' = w.alloc (.cells #[.slice a len cap] 52) := by
  refine callsIn_of_wp Tryz.func72 rfl trivial ?_ rfl
  simp only [Tryz.ntmps72, List.size_toArray, List.length_cons, List.length_nil, Nat.reduceAdd, Nat.reduceSub, Array.replicate_succ, Array.replicate_zero, List.push_toArray, List.append_toArray, List.nil_append, List.cons_append]
  gi_wp2
  go_ret
  exact ⟨rfl, rfl⟩

theorem itoa_pos (n : Int) : 0 < (Lib.itoa n).length := by
  unfold Lib.itoa; split
  · simp
  · exact List.length_pos_iff.2 (decDigits_ne _)
theorem addr_add (g j : Nat) : (⟨g, 0, none⟩ : Addr).add j = ⟨g, j, none⟩ := by
  cases j <;> simp [Addr.add]
/-- A row's block, told outright. -/
theorem row_block {w : World} {B g n cap : Nat} {e : TypeId} {xs : List Value} (h : w.ownsRow B e 1 (.slice (some ⟨g, 0, none⟩) n cap) n xs) :
    ∃ cur, w.heap[g]? = some (.cells cur e (0, 0)) ∧ cur.toList.take n = xs := by
  rcases h.2 with ⟨h1, _⟩ | ⟨g', cap', cur, hv, _, hh, _, _, _, ht⟩
  · cases h1
  · injection hv with hv1 _ _
    injection hv1 with hv1
    injection hv1 with hv1 _ _
    subst hv1
    exact ⟨cur, hh, by simpa using ht⟩
theorem heap3 (w : World) (o0 o1 o2 : Obj) : (((w.alloc o0).alloc o1).alloc o2).heap[w.heap.size]? = some o0 ∧ (((w.alloc o0).alloc o1).alloc o2).heap[w.heap.size + 1]? = some o1 ∧ (((w.alloc o0).alloc o1).alloc o2).heap[w.heap.size + 2]? = some o2 := by
  have n1 : (w.alloc o0).heap.size = w.heap.size + 1 := World.size_alloc w o0
  have n2 : ((w.alloc o0).alloc o1).heap.size = w.heap.size + 2 := by rw [World.size_alloc, n1]
  refine ⟨?_, ?_, ?_⟩
  · rw [Below.heap_alloc _ _ _ (by omega), Below.heap_alloc _ _ _ (by omega)]; exact World.alloc_heap_new w o0
  · rw [Below.heap_alloc _ _ _ (by omega), ← n1]; exact World.alloc_heap_new _ o1
  · rw [← n2]; exact World.alloc_heap_new _ o2
theorem cell_at {w : World} {b i : Nat} {cs : Array Value} {t : TypeId} {fr : Nat × Nat} (h : w.heap[b]? = some (.cells cs t fr)) : w.cell? ⟨b, i, none⟩ = cs[i]? := by
  simp [World.cell?, h]
theorem free_at {w : World} {b i : Nat} {cs : Array Value} {t : TypeId} (h : w.heap[b]? = some (.cells cs t (0, 0))) : w.frozen? ⟨b, i, none⟩ = false := by
  simp [World.frozen?, h]

set_option maxRecDepth 100000 in
set_option maxHeartbeats 2000000 in
theorem text1 (b : Nat) (v : Int) (hv0 : 0 < v) (hv1 : v < 1000000000) (w : World) (E : Env w) (hb : b < w.heap.size) (hc : w.cell? ⟨b, 0, none⟩ = some (.int .i64 v)) :
    Calls Tryz.prog 40 #[.agg #[.bool false, .slice (some ⟨b, 0, none⟩) 1 1]] w fun e w' => e = .returned (.string (itoaB v)) ∧ Below w.heap.size w w' := by
  have hmk : ∀ w, (Instr.makeSlice 22 (.int .i64 0) (.int .i64 10)).run Tryz.prog w = .ok (.slice (some ⟨w.heap.size, 0, none⟩) 0 10) (w.alloc (.cells (Array.replicate 10 (.int .u8 0)) 5)) := fun _ => by kernel_rfl
  refine (callsIn_wide (n := 5)).1 ?_
  refine callsIn_of_wp_marks Tryz.func40 rfl trivial ?_ rfl
  simp only [Tryz.ntmps40, List.size_toArray, List.length_cons, List.length_nil, Nat.reduceAdd, Nat.reduceSub, Array.replicate_succ, Array.replicate_zero, List.push_toArray, List.append_toArray, List.nil_append, List.cons_append]
  refine wpIn_wide.2 ?_
  go_wp2
  obtain ⟨W3, hW3⟩ : ∃ W3, ((w.alloc (Obj.cells #[Value.bool false, Value.slice (some ⟨b, 0, none⟩) 1 1] 54)).alloc (Obj.cells (Array.replicate 10 (Value.int IntKind.u8 0)) 5)).alloc (Obj.cells #[Value.slice (some ⟨w.heap.size + 1, 0, none⟩) 0 10] 22) = W3 := ⟨_, rfl⟩
  have hs3 : W3.heap.size = w.heap.size + 3 := by rw [← hW3]; simp only [World.size_alloc]
  have hh := heap3 w (Obj.cells #[Value.bool false, Value.slice (some ⟨b, 0, none⟩) 1 1] 54) (Obj.cells (Array.replicate 10 (Value.int IntKind.u8 0)) 5) (Obj.cells #[Value.slice (some ⟨w.heap.size + 1, 0, none⟩) 0 10] 22)
  rw [hW3] at hh ⊢
  have hb3 : Below w.heap.size w W3 := by rw [← hW3]; exact (((Below.refl _ _).alloc (Nat.le_refl _) _).alloc (by simp) _).alloc (by simp; omega) _
  clear hW3
  have hown : W3.ownsRow (w.heap.size + 1) 5 1 (Value.slice (some ⟨w.heap.size + 1, 0, none⟩) 0 10) 0 [] :=
    ⟨rfl, .inr ⟨w.heap.size + 1, 10, _, rfl, Nat.le_refl _, hh.2.1, by omega, by decide, by simp, by simp⟩⟩
  obtain ⟨k0, k1, k2⟩ := hh
  have K0 := Lib.hid k0
  have K2 := Lib.hid k2
  clear k1
  have c3 : W3.cell? ⟨w.heap.size + 1 + 1, 0, none⟩ = some (Value.slice (some ⟨w.heap.size + 1, 0, none⟩) 0 10) := cell_at k2
  have c1 : W3.cell? ⟨w.heap.size, 1, none⟩ = some (Value.slice (some ⟨b, 0, none⟩) 1 1) := cell_at k0
  have cb : W3.cell? ⟨b, 0, none⟩ = some (Value.int .i64 v) := (hb3.cell (p := ⟨b, 0, none⟩) hb).trans hc
  clear k0 k2
  have T3 : Lib.TabBelow Tryz.prog (w.heap.size + 1) W3 "internal/strconv.uint64pow10" .u64 Lib.pow10Tab := fun w' h' => (E.below (hb3.trans (h'.mono (by omega)))).tab
  go_still_tail 6, (by kernel_rfl)
  obtain ⟨W4, hW4⟩ : ∃ W4, W3.drew = W4 := ⟨_, rfl⟩
  have hown4 : W4.ownsRow (w.heap.size + 1) 5 1 (Value.slice (some ⟨w.heap.size + 1, 0, none⟩) 0 10) 0 [] := by rw [← hW4]; exact hown.drew
  have hb4 : Below w.heap.size w W4 := by rw [← hW4]; exact hb3.drew
  have T4 : Lib.TabBelow Tryz.prog (w.heap.size + 1) W4 "internal/strconv.uint64pow10" .u64 Lib.pow10Tab := by rw [← hW4]; exact T3.on (Below.refl _ _).drew
  have d3 : W4.cell? ⟨w.heap.size + 1 + 1, 0, none⟩ = some (Value.slice (some ⟨w.heap.size + 1, 0, none⟩) 0 10) := by rw [← hW4]; exact c3
  have d1 : W4.cell? ⟨w.heap.size, 1, none⟩ = some (Value.slice (some ⟨b, 0, none⟩) 1 1) := by rw [← hW4]; exact c1
  have db : W4.cell? ⟨b, 0, none⟩ = some (Value.int .i64 v) := by rw [← hW4]; exact cb
  have hs4 : W4.heap.size = w.heap.size + 3 := by rw [← hW4]; exact hs3
  have G0 : Hid (W4.heap[w.heap.size]? = some (Obj.cells #[Value.bool false, Value.slice (some ⟨b, 0, none⟩) 1 1] 54)) := by rw [← hW4]; exact K0
  have G2 : Hid (W4.heap[w.heap.size + 2]? = some (Obj.cells #[Value.slice (some ⟨w.heap.size + 1, 0, none⟩) 0 10] 22)) := by rw [← hW4]; exact K2
  change wpList _ _ _ _ _ W3.drew
  rw [hW4]
  clear hW4 c3 c1 cb hb3 hown T3 K0 K2 hs3
  have HS4 := Lib.hid hs4
  clear hs4
  go_wp2_with (go_at_call 71; refine (Tryz.strconv_AppendInt_10 _ _ _ (by omega) (by omega) _ _ _ hown4 (by have := HS4.out; omega) (by omega) T4).mono ?_; rintro e w5 ⟨v5, rfl, hown5, hb5, hk5⟩; refine Hid.out ?_)
  refine Lib.hid ?_
  have e2 : w5.heap[w.heap.size + 2]? = some (Obj.cells #[Value.slice (some ⟨w.heap.size + 1, 0, none⟩) 0 10] 22) := hk5 _ _ G2.out (by simp) (fun c fz h => by injection h with _ h2 _; cases h2)
  have e0 : w5.heap[w.heap.size]? = some (Obj.cells #[Value.bool false, Value.slice (some ⟨b, 0, none⟩) 1 1] 54) := (hb5.block _ (by omega)).trans G0.out
  have H2 := Lib.hid e2
  have H0 := Lib.hid e0
  have x3 : w5.cell? ⟨w.heap.size + 1 + 1, 0, none⟩ = some (Value.slice (some ⟨w.heap.size + 1, 0, none⟩) 0 10) := cell_at e2
  have x4 : w5.frozen? ⟨w.heap.size + 1 + 1, 0, none⟩ = false := free_at e2
  have x1 : w5.cell? ⟨w.heap.size, 1, none⟩ = some (Value.slice (some ⟨b, 0, none⟩) 1 1) := cell_at e0
  have hb6 : Below w.heap.size w w5 := hb4.trans (hb5.mono (by omega))
  obtain ⟨g5, cp5, rfl⟩ := Joins.ownsRow_form hown5 (by rw [Nat.zero_add]; exact itoa_pos _)
  have HO := Lib.hid hown5
  have HK := Lib.hid hk5
  have HB5 := Lib.hid hb5
  clear e2 e0 hb4 hown5 hk5 hb5 hown4 T4 d1 d3 db
  have hs5 : w.heap.size + 3 ≤ w5.heap.size := by have h1 := HO.out; have h2 := HS4.out; have h3 := HB5.out.size; omega
  go_wp2_with (go_at_call 72; refine (callsIn_wide.1 (backward_in 3 _ _ _ _)).mono ?_; rintro e w6 ⟨rfl, rfl⟩)
  obtain ⟨W7, hW7⟩ : ∃ W7, (w5.setCell ⟨w.heap.size + 1 + 1, 0, none⟩ (Value.slice (some ⟨g5, 0, none⟩) (Lib.itoa v).length cp5)).alloc (Obj.cells #[Value.slice (some ⟨b, 0, none⟩) 0 1] 52) = W7 := ⟨_, rfl⟩
  have hO7 : W7.ownsRow (w.heap.size + 1) 5 1 (Value.slice (some ⟨g5, 0, none⟩) (0 + (Lib.itoa v).length) cp5) (0 + (Lib.itoa v).length) ([] ++ Lib.byteCells (Lib.itoa v)) := by
    rw [← hW7]
    exact (ownsRow_setCell_other HO.out (by
      obtain ⟨cur, hh, _⟩ := row_block HO.out
      intro e
      injection e with e
      rw [show g5 = w.heap.size + 2 from e, H2.out] at hh
      injection hh with hh
      injection hh with _ h2 _
      cases h2) _).alloc _
  have hb7 : Below w.heap.size w W7 := by rw [← hW7]; exact (hb6.setCell (p := ⟨w.heap.size + 1 + 1, 0, none⟩) (by show w.heap.size ≤ w.heap.size + 1 + 1; omega) _).alloc (by simp [World.size_setCell]; omega) _
  have y3 : W7.cell? ⟨w.heap.size + 1 + 1, 0, none⟩ = some (Value.slice (some ⟨g5, 0, none⟩) (Lib.itoa v).length cp5) := by
    rw [← hW7, World.cell?_alloc_lt _ _ _ (by simp only [World.size_setCell]; show w.heap.size + 1 + 1 < _; omega)]; exact World.cell?_setCell_same _ _ _ x3
  have y7 : W7.cell? ⟨w5.heap.size, 0, none⟩ = some (Value.slice (some ⟨b, 0, none⟩) 0 1) := by
    rw [← hW7, World.cell?_alloc_at _ _ _ _ (by simp only [World.size_setCell])]; rfl
  have hs7 : W7.heap.size = w5.heap.size + 1 := by rw [← hW7]; simp [World.size_setCell]
  rw [hW7]
  refine (wpIn_wide (n := 5)).1 ?_
  refine wpIn_rangeFunc_ownF rfl (by omega) (gf := 97) (lb := #[.pointer (some ⟨w5.heap.size, 0, none⟩)]) rfl trivial (enters_of Tryz.func97 (by kernel_rfl) rfl)
    (backward0_stops 4 w5.heap.size _ 1 W7 (by omega) y7 w.heap.size) belowK_t (belowK_b (by omega)) (Below.refl _ _) (fun _ => rfl)
    (fun _ W => (W.cell? ⟨w.heap.size + 1 + 1, 0, none⟩ = some (Value.slice (some ⟨g5, 0, none⟩) (Lib.itoa v).length cp5) ∧ ∀ j (hj : j < (Lib.itoa v).length), W.cell? ⟨g5, j, none⟩ = some (.int .u8 ((Lib.itoa v)[j].toNat : Int))) ∧ Below w.heap.size w W)
    (fun _ _ _ => False)
    (OwnFrom.and (Own.from (fun s A B row hs hg hr => ⟨cell_kept hs.1 hg hr, fun j hj => cell_kept (hs.2 j hj) hg hr⟩) _) (ownFrom_below (Nat.le_refl _) (by omega)))
    (fun _ _ _ _ _ hs _ _ => hs)
    ⟨⟨y3, by
      obtain ⟨cur, hh, ht⟩ := row_block hO7
      intro j hj
      have := Lib.bytes_of_row hh (l := Lib.itoa v) (by rw [Nat.zero_add] at ht; exact ht) j hj
      rwa [addr_add] at this⟩, hb7⟩
    (fun x => { tmps := #[Value.agg #[Value.bool false, Value.slice (some ⟨b, 0, none⟩) 1 1],
          Value.pointer (some ⟨w.heap.size, 0, none⟩), Value.string ⟨#[]⟩,
          Value.pointer (some ⟨w.heap.size + 1 + 1, 0, none⟩), Value.int IntKind.i64 0, undef, .int .i64 x.2,
          Value.pointer (some ⟨w.heap.size, 1, none⟩), Value.slice (some ⟨b, 0, none⟩) 1 1,
          Value.int IntKind.i64 1, Value.bool false, Value.pointer (some ⟨w.heap.size, 1, none⟩),
          Value.slice (some ⟨b, 0, none⟩) 1 1, Value.int IntKind.i64 1, Value.int IntKind.i64 9,
          Value.int IntKind.i64 10, Value.slice (some ⟨w.heap.size + 1, 0, none⟩) 0 10,
          Value.pointer (some ⟨w.heap.size, 0, none⟩), Value.bool false, undef, undef, undef,
          Value.pointer (some ⟨w.heap.size, 1, none⟩), Value.slice (some ⟨b, 0, none⟩) 1 1,
          Value.int IntKind.i64 1, Value.int IntKind.i64 0,
          Value.slice (some ⟨w.heap.size + 1, 0, none⟩) 0 10,
          Value.pointer (some ⟨w.heap.size, 1, none⟩), Value.slice (some ⟨b, 0, none⟩) 1 1,
          Value.int IntKind.i64 0, Value.pointer (some ⟨b, 0, none⟩), Value.int IntKind.i64 v,
          Value.slice (some ⟨g5, 0, none⟩) (Lib.itoa v).length cp5,
          Value.pointer (some ⟨w.heap.size, 1, none⟩), Value.slice (some ⟨b, 0, none⟩) 1 1, Value.int IntKind.i64 0,
          Value.slice (some ⟨b, 0, none⟩) 0 1, Value.func (Fn.func 97) #[] #[Value.pointer (some ⟨w5.heap.size, 0, none⟩)],
          .int .i64 x.1, .int .i64 x.2, undef, undef, undef, undef, undef], defers := [] }) ?assign ?body ?done ?stop
  case assign =>
    intro l x W K hK
    gi_wp2
    exact hK
  case body =>
    intro l pre x W _ h
    exact absurd h (by omega)
  case done =>
    rintro D ys W hD rfl ⟨⟨hc3, hcs⟩, hB⟩ hK
    have hconv := run_convert_bytes_back (P := Tryz.prog) W 22 26 5 ⟨g5, 0, none⟩ cp5 (Lib.itoa v) Tryz.underlying22 Tryz.underlying5 Tryz.underlying26 (fun j hj => by rw [addr_add]; exact hcs j hj)
    go_wp2
    refine ⟨by simp, .inl ⟨_, _, rfl, run_takeDeferred hK, ?_⟩⟩
    exact ⟨_, results_tmp rfl _ _ _, rfl, hB.trans (belowK_b (w := w) (Nat.le_refl _) W D _ _ (by omega) hK rfl rfl)⟩
  case stop =>
    rintro D c pre W _ _ h _
    exact h.elim
end Go.Proofs.YtkekdcmonenciaaGreatDoor.Kl
