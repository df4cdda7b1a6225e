/- Contracts: the text of a number, at any length. -/
import Derived.Test.YtkekdcmonenciaaGreatDoorKlBack
import Derived.Test.YtkekdcmonenciaaGreatDoorKlAppP
import Derived.Test.YtkekdcmonenciaaGreatDoorKlAdd
namespace Go.Proofs.YtkekdcmonenciaaGreatDoor.Kl
open Go Go.RowKit Go.Shelf

attribute [local go_sem] Oper.semAt_some

/-- The digits of the pieces at some places, one behind the other. -/
def lows (xs : List Int) (is : List Nat) : List UInt8 := is.flatMap fun i => low 9 (xs[i]?.getD 0).toNat
theorem lows_snoc (xs : List Int) (is : List Nat) (i : Nat) : lows xs (is ++ [i]) = lows xs is ++ low 9 (xs[i]?.getD 0).toNat := by unfold lows; simp
theorem lows_length (xs : List Int) (is : List Nat) : (lows xs is).length = 9 * is.length := by
  induction is with
  | nil => rfl
  | cons a r ih => unfold lows at *; simp [low_length] at *; omega
/-- The digits from place j on. -/
theorem dec_step9 {xs : List Int} (h : IsP 1000000000 xs) {j : Nat} (hj : j + 1 < xs.length) :
    Lib.decDigits (pval 1000000000 (xs.drop (j + 1))).toNat ++ low 9 (xs[j]?.getD 0).toNat = Lib.decDigits (pval 1000000000 (xs.drop j)).toNat := by
  have hjl : j < xs.length := by omega
  have hx := h.1 xs[j] (List.getElem_mem hjl)
  have hpos := isP_pos (by decide : (0 : Int) < 1000000000) (drop_isP (j + 1) h) (by
    intro e; have := congrArg List.length e; rw [List.length_drop] at this; simp at this; omega)
  have e1 : pval 1000000000 (xs.drop j) = xs[j] + 1000000000 * pval 1000000000 (xs.drop (j + 1)) := by rw [← List.getElem_cons_drop hjl]; rfl
  have e2 : xs[j]?.getD 0 = xs[j] := by rw [List.getElem?_eq_getElem hjl]; rfl
  rw [e2]
  have e3 : (pval 1000000000 (xs.drop j)).toNat = 1000000000 * (pval 1000000000 (xs.drop (j + 1))).toNat + xs[j].toNat := by rw [e1]; omega
  rw [e3, dec_nine _ _ (by omega) (by omega)]
theorem dec_lows {xs : List Int} (h : IsP 1000000000 xs) (l : Nat) (hl : xs.length = l + 1) : ∀ t, t ≤ l →
    Lib.decDigits (xs[l]?.getD 0).toNat ++ lows xs (bl l t) = Lib.decDigits (pval 1000000000 (xs.drop (l - t))).toNat
  | 0, _ => by
    have e : xs.drop l = [xs[l]?.getD 0] := by
      rw [← List.getElem_cons_drop (by omega : l < xs.length), List.drop_eq_nil_of_le (by omega), List.getElem?_eq_getElem (by omega)]; rfl
    rw [Nat.sub_zero, e]
    show _ = Lib.decDigits (xs[l]?.getD 0 + 1000000000 * 0).toNat
    simp [bl, lows]
  | t + 1, ht => by
    rw [bl_succ, lows_snoc, ← List.append_assoc, dec_lows h l hl t (by omega)]
    have := dec_step9 h (j := l - 1 - t) (by omega)
    rw [show l - 1 - t + 1 = l - t by omega] at this
    rw [this, show l - 1 - t = l - (t + 1) by omega]
theorem info_b : ∃ i, Tryz.prog.info? 5 = some i ∧ i.zero = some (.int .u8 0) ∧ i.size = 1 ∧ i.bytes = 1 := info_parts info_u8
theorem make_bytes (c : Nat) (hc : c ≤ 10000000) (w : World) :
    (Instr.makeSlice 22 (.int .i64 0) (.int .i64 c)).run Tryz.prog w = .ok (.slice (some ⟨w.heap.size, 0, none⟩) 0 c) (w.alloc (.cells (madeCells #[Value.int .u8 0] c) 5)) := by
  obtain ⟨i, hi, hz, hs, hb⟩ := info_b
  have := run_make w 22 5 i (.int .u8 0) (by kernel_rfl) hi hz .i64 .i64 0 (c : Int) (by omega) (by omega) (by rw [hb]; omega) (by omega)
  rw [hs, Nat.mul_one] at this
  simpa [Value.cells] using this
theorem ownsRow_ownFrom {β : Type} (B B' : Nat) (e : TypeId) (size : Nat) (f : β → Prop) (g : β → Value) (n : β → Nat) (x : β → List Value) : OwnFrom B' (fun s W => f s ∧ W.ownsRow B e size (g s) (n s) (x s)) := fun s W W' row hs hg hr =>
  ⟨hs.1, hs.2.kept hg (by
    by_cases h : (g s).ownBlock = row
    · rcases hs.2.2 with ⟨h1, _⟩ | ⟨g0, cap, cur, hv, _, hh, _⟩
      · exact .inl (by rw [h1]; rfl)
      · exfalso
        have e0 : (g s).ownBlock = some g0 := by rw [hv]; rfl
        obtain ⟨_, o, ho, hc⟩ := hr g0 (h.symm.trans e0)
        rw [hh] at ho
        obtain rfl := Option.some.inj ho
        cases hc
    · exact .inr h)⟩
theorem box_set {w : World} {B : Nat} {u v : Value} {t : TypeId} (hB : w.heap[B]? = some (.cells #[u] t (0, 0))) :
    (w.setCell ⟨B, 0, none⟩ v).heap[B]? = some (.cells #[v] t (0, 0)) := by
  simp [World.setCell, Array.getElem?_modify, hB]
theorem cells_lie {W W' : World} {B : Nat} {k : Nat} {cs : Array Value} {t : TypeId} {fz : Nat × Nat} {row : Option Nat} (h : W.heap[k]? = some (.cells cs t fz)) (hg : W.grownBy W' row) (hr : ∀ r, row = some r → B ≤ r ∧ ∃ o : Obj, W.heap[r]? = some o ∧ o.isCells = false) : W'.heap[k]? = some (.cells cs t fz) := by
  have hlt : k < W.heap.size := by
    by_cases hn : k < W.heap.size
    · exact hn
    · rw [Array.getElem?_eq_none (by omega)] at h; cases h
  refine (hg.block k hlt (fun e => ?_)).trans h
  obtain ⟨_, o, ho, hc⟩ := hr k e.symm
  rw [h] at ho
  obtain rfl := Option.some.inj ho
  cases hc
/-- Where the text stands behind some places. -/
structure TextI (w : World) (xs : List Int) (ds : List UInt8) (n5 Bs b o l c : Nat) (pre : List Nat) (W : World) : Prop where
  row : ∃ g cp, W.heap[w.heap.size + 2]? = some (Obj.cells #[Value.slice (some ⟨g, 0, none⟩) (n5 + 9 * pre.length) cp] 22 (0, 0)) ∧ W.ownsRow (w.heap.size + 1) 5 1 (Value.slice (some ⟨g, 0, none⟩) (n5 + 9 * pre.length) cp) (n5 + 9 * pre.length) (Lib.byteCells (ds ++ lows xs pre))
  it : W.heap[Bs]? = some (Obj.cells #[Value.slice (some ⟨b, o, none⟩) l c] 52 (0, 0))
  bel : Below w.heap.size w W
theorem textI_own (w : World) (xs : List Int) (ds : List UInt8) (n5 Bs b o l c : Nat) (B : Nat) (hB : w.heap.size ≤ B) : OwnFrom B (TextI w xs ds n5 Bs b o l c) := fun s W W' row hs hg hr => by
  obtain ⟨⟨g, cp, h1, h2⟩, h3, h4⟩ := hs
  refine ⟨⟨g, cp, cells_lie h1 hg hr, ?_⟩, cells_lie h3 hg hr, ownFrom_below (Nat.le_refl _) hB s W W' row h4 hg hr⟩
  exact (ownsRow_ownFrom (w.heap.size + 1) B 5 1 (fun _ : List Nat => True) (fun p => Value.slice (some ⟨g, 0, none⟩) (n5 + 9 * p.length) cp) (fun p => n5 + 9 * p.length) (fun p => Lib.byteCells (ds ++ lows xs p)) s W W' row ⟨trivial, h2⟩ hg hr).2
theorem textI_start {w W7 : World} {xs : List Int} {ds : List UInt8} {n5 Bs b o l c g5 cp5 : Nat} (_h : ds.length = n5) (y2 : W7.heap[w.heap.size + 2]? = some (Obj.cells #[Value.slice (some ⟨g5, 0, none⟩) n5 cp5] 22 (0, 0)))
    (hO7 : W7.ownsRow (w.heap.size + 1) 5 1 (Value.slice (some ⟨g5, 0, none⟩) n5 cp5) n5 (Lib.byteCells ds)) (y7 : W7.heap[Bs]? = some (Obj.cells #[Value.slice (some ⟨b, o, none⟩) l c] 52 (0, 0))) (hb7 : Below w.heap.size w W7) :
    TextI w xs ds n5 Bs b o l c [] W7 := ⟨⟨g5, cp5, y2, by simpa [lows] using hO7⟩, y7, hb7⟩
end Go.Proofs.YtkekdcmonenciaaGreatDoor.Kl
