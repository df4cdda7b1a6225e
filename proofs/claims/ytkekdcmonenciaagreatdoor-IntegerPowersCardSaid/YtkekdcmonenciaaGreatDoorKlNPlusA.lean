/- Contracts: the sum of numbers, of one sign. -/
import Derived.Test.YtkekdcmonenciaaGreatDoorKlNumb
import Derived.Deep.RegionWith
namespace Go.Proofs.YtkekdcmonenciaaGreatDoor.Kl
open Go Go.RowKit

set_option maxRecDepth 100000 in
set_option maxHeartbeats 2000000 in
theorem nplus_same (b1 b2 : Bool) (p q : Option Addr) (n c m d X Y : Nat) (w : World) (h1 : Sm w p n c X) (h2 : Sm w q m d Y) (hX : (pcM X).length ≤ 100000) (hY : (pcM Y).length ≤ 100000) (hb : (b1 == b2) = true) :
    Calls Tryz.prog 39 #[.agg #[.bool b1, .slice p n c], .agg #[.bool b2, .slice q m d]] w (RetN w (sgI b1 X + sgI b2 Y)) := by
  have H1 := Lib.hid h1
  have H2 := Lib.hid h2
  clear h1 h2
  go_enter Tryz.func39, Tryz.ntmps39
  go_wp2
  obtain ⟨W3, hW3⟩ : ∃ W3, ((w.alloc (Obj.cells #[Value.bool b1, Value.slice p n c] 54)).alloc (Obj.cells #[Value.bool b2, Value.slice q m d] 54)).alloc (Obj.cells #[Value.bool false, Value.slice none 0 0] 54) = W3 := ⟨_, rfl⟩
  have hs3 : W3.heap.size = w.heap.size + 3 := by rw [← hW3]; simp only [World.size_alloc]
  have hh := heap3 w (Obj.cells #[Value.bool b1, Value.slice p n c] 54) (Obj.cells #[Value.bool b2, Value.slice q m d] 54) (Obj.cells #[Value.bool false, Value.slice none 0 0] 54)
  rw [hW3] at hh ⊢
  have hb3 : Below w.heap.size w W3 := by rw [← hW3]; exact (((Below.refl _ _).alloc (Nat.le_refl _) _).alloc (by simp) _).alloc (by simp; omega) _
  clear hW3
  have H1 := Lib.hid (H1.out.below hb3)
  have H2 := Lib.hid (H2.out.below hb3)
  obtain ⟨k0, k1, k2⟩ := hh
  have c0 : W3.cell? ⟨w.heap.size, 0, none⟩ = some (Value.bool b1) := cell_at k0
  have c1 : W3.cell? ⟨w.heap.size, 1, none⟩ = some (Value.slice p n c) := cell_at k0
  have c2 : W3.cell? ⟨w.heap.size + 1, 1, none⟩ = some (Value.slice q m d) := cell_at k1
  have K0 := Lib.hid k0
  have K2 := Lib.hid k2
  have HS3 := Lib.hid hs3
  have HB3 := Lib.hid hb3
  clear k0 k1 k2 hs3 hb3
  have cc : Calls Tryz.prog 55 #[Value.slice p n c, Value.slice q m d] W3.drew (RetP W3.drew (pcM (X + Y))) := plus_sm (H1.out.below (Below.refl _ _).drew) (H2.out.below (Below.refl _ _).drew) hX hY
  have CC := Lib.hid cc
  clear cc
  go_region_with (go_at_call 55; refine CC.out.mono ?_; rintro e w5 ⟨r5, n5, c5, rfl, hr5⟩; have HR := Lib.hid hr5; clear hr5; have a5 : w5.heap[w.heap.size + 2]? = some (Obj.cells #[Value.bool false, Value.slice none 0 0] 54 (0, 0)) := (HR.out.2.2.2.2.2.block _ (by have := HS3.out; show w.heap.size + 2 < W3.heap.size; omega)).trans K2.out; have b5 : w5.cell? ⟨w.heap.size, 0, none⟩ = some (Value.bool b1) := cell_at ((HR.out.2.2.2.2.2.block _ (by have := HS3.out; show w.heap.size < W3.heap.size; omega)).trans K0.out); have e0 : w5.cell? ⟨w.heap.size + 1 + 1, 0, none⟩ = some (Value.bool false) := cell_at a5; have e1 : w5.cell? ⟨w.heap.size + 1 + 1, 1, none⟩ = some (Value.slice none 0 0) := cell_at a5; have f0 : w5.frozen? ⟨w.heap.size + 1 + 1, 0, none⟩ = false := free_at a5; have f1 : w5.frozen? ⟨w.heap.size + 1 + 1, 1, none⟩ = false := free_at a5; have A5 := Lib.hid a5; clear a5)
  all_goals
    go_wp2
    have G := (show Sm w5 r5 n5 c5 (X + Y) from ⟨HR.out.1, HR.out.2.1, HR.out.2.2.1, HR.out.2.2.2.1, HR.out.2.2.2.2.1⟩)
    refine bodyPost_ret (v := .agg #[.bool b1, .slice r5 n5 c5]) (by simp [results, Tryz.results39, go_sem, e0, e1]) rfl ⟨b1, r5, n5, c5, X + Y, rfl, ?_, ?_, ?_⟩
    · exact (G.setNum A5.out _ _).setNum (num_set0 A5.out) _ _
    · (obtain rfl : b1 = b2 := by simpa using hb); cases b1 <;> (unfold sgI; simp; try omega)
    · exact ((HB3.out.drew.trans (HR.out.2.2.2.2.2.mono (by have := HS3.out; show w.heap.size ≤ W3.heap.size; omega))).setCell (by show w.heap.size ≤ w.heap.size + 1 + 1; omega) _).setCell (by show w.heap.size ≤ w.heap.size + 1 + 1; omega) _
end Go.Proofs.YtkekdcmonenciaaGreatDoor.Kl
