/- The walk of klippelaw01.IntegerRoots: true, whatever the description and the int8. -/
import Derived.Test.YtkekdcmonenciaaGreatDoorKlKnown
import Derived.Test.YtkekdcmonenciaaGreatDoorKlArg
import Derived.Test.YtkekdcmonenciaaGreatDoorKlRefRoot
import Derived.Deep.RegionHeld3
namespace Go.Proofs.YtkekdcmonenciaaGreatDoor
open Go.ChangeShapes Go.WideShapes Go.ChangeAt Go.RowKit
open Go.ChangeMaps (open_string shut_string)

set_option maxRecDepth 100000 in
/-- A description among the arguments: what Make gives of it has at most N digits. -/
theorem Kl.arg_make2 {H : Type} {enc : TypeId × Value → H} {W : World} {base N : Nat} (hN : N ≤ 200) {v0 : Value} {d0 : DataW H} {ps : List MemPlace} (hok : Value.okWide Tryz.prog W .any base 24 v0)
    (h0 : DataW.Trod enc Tryz.prog W 0 (fun _ => true) true 24 v0 d0 ps) :
    ∃ (b : Bool) (p : Option Addr) (n c : Nat) (l : List UInt8), v0 = .agg #[.bool b, .slice p n c] ∧ l.all Kl.isDig = true ∧ l.length ≤ N ∧
      ∀ w', Below W.heap.size W w' → Calls Tryz.prog 12 #[.agg #[.bool b, .slice p n c], .int .i64 N] w' fun e w'' => e = .returned (.string (Kl.strOf (Kl.makeS b l))) ∧ Below w'.heap.size w' w'' := by
  obtain ⟨c0, c1, y0, y1, m, hv0, hd0, hp0, hy0, hy1⟩ := Joins.open_agg2 Tryz.underlying24 (by kernel_rfl) (by kernel_rfl) hok h0
  obtain ⟨bb, e0, _⟩ := DataW.trod_bool Tryz.underlying4 hy0
  obtain rfl : c0 = .bool bb := by simpa using e0
  rcases open_ints Tryz.underlying22 Tryz.underlying5 (by kernel_rfl) hy1 with ⟨hcs, _⟩ | ⟨a, len, cap, zs, hcs, _, hl, hm, hz, _, hcell, hwf⟩
  · obtain rfl : c1 = .slice none 0 0 := by simpa using hcs
    exact ⟨bb, none, 0, 0, [], hv0, rfl, Nat.zero_le _, fun w' _ => Kl.make_none bb none 0 N w'⟩
  · obtain rfl : c1 = .slice (some a) len cap := by simpa using hcs
    by_cases h0 : len = 0
    · subst h0
      exact ⟨bb, some a, 0, cap, [], hv0, rfl, Nat.zero_le _, fun w' _ => Kl.make_none bb (some a) cap N w'⟩
    · have hzl : zs.length = cap := by simpa using hz
      obtain ⟨blk, off, rfl, hc⟩ := ints_at hcell (by omega)
      have hb0 : W.cell? ⟨blk, off + 0, none⟩ = some (.int .u8 (zs[0]?.getD 0)) := by
        have h2 := hc 0 (by omega); rw [List.getD_eq_getElem?_getD] at h2; exact h2
      have hblk : blk < W.heap.size := Lib.lt_of_cell hb0
      refine ⟨bb, some ⟨blk, off, none⟩, len, cap, Kl.dgs zs (min len N), hv0, Kl.dgs_dig _ _, by rw [Kl.dgs_length]; omega, fun w' hb => ?_⟩
      refine Kl.make_some bb blk off len cap N zs hN (by unfold maxLen at hm; omega) w' (Nat.lt_of_lt_of_le hblk hb.size) (range_u8 hwf) (fun j hj => ?_)
      rw [hb.cell (p := ⟨blk, off + j, none⟩) hblk]
      have h2 := hc j (by omega)
      rw [List.getD_eq_getElem?_getD] at h2; exact h2
end Go.Proofs.YtkekdcmonenciaaGreatDoor
namespace Go.Proofs.YtkekdcmonenciaaGreatDoor.Kl
open Go Go.RowKit

theorem made_itoaN (b : Bool) {l : List UInt8} {N : Nat} (hl : l.all isDig = true) (hll : l.length ≤ N) : ∃ x : Int, strOf (makeS b l) = itoaB x ∧ dlen x ≤ N + 2 := by
  obtain ⟨x, hx, hd⟩ := canon_is_itoa (canon_make b hl)
  refine ⟨x, by unfold itoaB; rw [← hx], ?_⟩
  have h1 := makeS_le b l
  have h2 := mag_length (makeS b l)
  rw [hd, h2]; omega
/-- What a round of the law has of its integer: the program's root, the reference's sign, and its root. -/
structure RootIn (a : ByteArray) (r : ByteArray) (e sg : Int) : Prop where
  rt : ∀ w, Env w → Calls Tryz.prog 27 #[.string a] w fun e' w' => e' = .returned (.tuple #[.string r, .int .i64 e]) ∧ Below w.heap.size w w'
  sn : ∀ w, Calls Tryz.prog 28 #[.string a] w fun e' w' => e' = .returned (.int .i64 sg) ∧ Below w.heap.size w w'
  ok : (sg < 0 ∧ r = ⟨#[]⟩ ∧ e = 3) ∨ (¬ sg < 0 ∧ e = 0 ∧ ∀ w, Env w → Calls Tryz.prog 29 #[.string a] w fun e' w' => e' = .returned (.string r) ∧ Below w.heap.size w w')
theorem root_in (z : Int) (hz : dlen z ≤ 46) : ∃ r e sg, RootIn (itoaB z) r e sg := by
  by_cases h : z < 0
  · exact ⟨_, _, _, fun w _ => root_neg z w h, fun w => refSign_any z w, .inl ⟨by rw [Int.sign_eq_neg_one_of_neg h]; decide, rfl, rfl⟩⟩
  · obtain ⟨Z, rfl⟩ : ∃ Z : Nat, z = (Z : Int) := ⟨z.toNat, by omega⟩
    refine ⟨_, _, _, fun w E => root_any Z w E (by omega), fun w => refSign_any _ w, .inr ⟨?_, rfl, fun w E => refRoot_any Z w E hz⟩⟩
    rcases Nat.eq_zero_or_pos Z with h0 | h0
    · subst h0; decide
    · rw [Int.sign_eq_one_of_pos (by omega)]; decide
set_option maxRecDepth 100000 in
set_option maxHeartbeats 4000000 in
theorem lawRoots' (b1 : Bool) (p1 : Option Addr) (n1 c1 : Nat) (z : Int) (hz : -128 ≤ z ∧ z ≤ 127) (w : World) (E : Env w) (a u s o t r1 r2 : ByteArray) (e1 e2 g1 g2 : Int)
    (hm1 : ∀ w', Below w.heap.size w w' → Calls Tryz.prog 12 #[.agg #[.bool b1, .slice p1 n1 c1], .int .i64 40] w' fun e w'' => e = .returned (.string a) ∧ Below w'.heap.size w' w'')
    (hm2 : ∀ w', Below w.heap.size w w' → Calls Tryz.prog 12 #[.agg #[.bool b1, .slice p1 n1 c1], .int .i64 20] w' fun e w'' => e = .returned (.string u) ∧ Below w'.heap.size w' w'')
    (k1 : ∀ w, Env w → Calls Tryz.prog 18 #[.string u, .string u] w fun e' w' => e' = .returned (.string s) ∧ Below w.heap.size w w')
    (k2 : ∀ w, Env w → Calls Tryz.prog 26 #[.int .i64 z] w fun e' w' => e' = .returned (.string o) ∧ Below w.heap.size w w')
    (k3 : ∀ w, Env w → Calls Tryz.prog 14 #[.string s, .string o] w fun e' w' => e' = .returned (.string t) ∧ Below w.heap.size w w')
    (R1 : RootIn a r1 e1 g1) (R2 : RootIn t r2 e2 g2) :
    Calls Tryz.prog 8 #[.agg #[.bool b1, .slice p1 n1 c1], .int .i8 z] w fun e w' => e = .returned (.bool true) ∧ Below w.heap.size w w' := by
  have M1 := Lib.hid hm1
  have M2 := Lib.hid hm2
  have K1 := Lib.hid k1
  have K2 := Lib.hid k2
  have K3 := Lib.hid k3
  have hb1 : Below w.heap.size w (w.alloc (.cells #[.bool b1, .slice p1 n1 c1] 24)) := (Below.refl _ _).alloc (Nat.le_refl _) _
  have hsz1 : w.heap.size + 1 ≤ (w.alloc (.cells #[.bool b1, .slice p1 n1 c1] 24)).heap.size := by simp
  have wi : IntKind.i64.wrap z = z := IntWalk.i64_in _ (by omega)
  have KN := Lib.hid (known_any _ (E.below hb1))
  have HB1 := Lib.hid hb1
  have HSZ1 := Lib.hid hsz1
  clear hm1 hm2 k1 k2 k3 hb1 hsz1
  go_enter Tryz.func8, Tryz.ntmps8
  go_wp2_with (go_at_call 11; refine KN.out.mono ?_; rintro e w1 ⟨rfl, hb3⟩; refine Hid.out ?_)
  refine Lib.hid ?_
  have x0 : w1.cell? ⟨w.heap.size, 0, none⟩ = some (Value.bool b1) := by rw [hb3.cell (p := ⟨w.heap.size, 0, none⟩) (by simp only [World.size_alloc]; omega)]; simp [go_sem]
  have x1 : w1.cell? ⟨w.heap.size, 1, none⟩ = some (Value.slice p1 n1 c1) := by rw [hb3.cell (p := ⟨w.heap.size, 1, none⟩) (by simp only [World.size_alloc]; omega)]; simp [go_sem]
  have hb := HB1.out.trans (hb3.mono HB1.out.size)
  have hsz : w.heap.size < w1.heap.size := Nat.lt_of_lt_of_le HSZ1.out hb3.size
  clear hb3
  go_upto_region 4 with (go_at_call 12; refine (chain2 hb (M1.out _ hb)).mono ?_; clear hb; rintro e w2 ⟨rfl, hs, hb⟩; replace x0 := (hs.cell (p := ⟨w.heap.size, 0, none⟩) hsz).trans x0; replace x1 := (hs.cell (p := ⟨w.heap.size, 1, none⟩) hsz).trans x1; replace hsz := Nat.lt_of_lt_of_le hsz hs.size; clear hs)
  go_region_held3 (fun w' => w'.cell? ⟨w.heap.size, 0, none⟩ = some (Value.bool b1) ∧ w'.cell? ⟨w.heap.size, 1, none⟩ = some (Value.slice p1 n1 c1))
    (first | go_keep | exact ⟨x0, x1⟩)
    (first | (go_at_call 12; refine (chain2 hb.drew (M2.out _ hb.drew)).mono ?_; clear hb; rintro e w3 ⟨rfl, hs, hb⟩; replace x0 := (hs.cell (p := ⟨w.heap.size, 0, none⟩) hsz).trans x0; replace x1 := (hs.cell (p := ⟨w.heap.size, 1, none⟩) hsz).trans x1; replace hsz := Nat.lt_of_lt_of_le hsz hs.size; clear hs) | (go_at_call 12; refine (chain2 hb (M2.out _ hb)).mono ?_; clear hb; rintro e w4 ⟨rfl, hs, hb⟩; replace x0 := (hs.cell (p := ⟨w.heap.size, 0, none⟩) hsz).trans x0; replace x1 := (hs.cell (p := ⟨w.heap.size, 1, none⟩) hsz).trans x1; replace hsz := Nat.lt_of_lt_of_le hsz hs.size; clear hs) | (go_at_call 18; refine (chain2 hb (K1.out _ (E.below hb))).mono ?_; clear hb; rintro e w5 ⟨rfl, hs, hb⟩; replace x0 := (hs.cell (p := ⟨w.heap.size, 0, none⟩) hsz).trans x0; replace x1 := (hs.cell (p := ⟨w.heap.size, 1, none⟩) hsz).trans x1; replace hsz := Nat.lt_of_lt_of_le hsz hs.size; clear hs) | (go_at_call 26; refine (chain2 hb (K2.out _ (E.below hb))).mono ?_; clear hb; rintro e w6 ⟨rfl, hs, hb⟩; replace x0 := (hs.cell (p := ⟨w.heap.size, 0, none⟩) hsz).trans x0; replace x1 := (hs.cell (p := ⟨w.heap.size, 1, none⟩) hsz).trans x1; replace hsz := Nat.lt_of_lt_of_le hsz hs.size; clear hs) | (go_at_call 14; refine (chain2 hb (K3.out _ (E.below hb))).mono ?_; clear hb; rintro e w7 ⟨rfl, hs, hb⟩; replace x0 := (hs.cell (p := ⟨w.heap.size, 0, none⟩) hsz).trans x0; replace x1 := (hs.cell (p := ⟨w.heap.size, 1, none⟩) hsz).trans x1; replace hsz := Nat.lt_of_lt_of_le hsz hs.size; clear hs))
  obtain ⟨W9, hW9⟩ : ∃ W9, w7.alloc (Obj.cells #[Value.string a, Value.string t] 26) = W9 := ⟨_, rfl⟩
  have k9 : W9.heap[w7.heap.size]? = some (Obj.cells #[Value.string a, Value.string t] 26 (0, 0)) := by rw [← hW9]; exact World.alloc_heap_new w7 _
  have y0 : W9.cell? ⟨w7.heap.size, 0, none⟩ = some (Value.string a) := cell_at k9
  have y1 : W9.cell? ⟨w7.heap.size, 1, none⟩ = some (Value.string t) := cell_at k9
  have hb9 : Below w.heap.size w W9 := by rw [← hW9]; exact hb.alloc hb.size _
  have hs9 : w7.heap.size < W9.heap.size := by rw [← hW9]; simp
  obtain ⟨B9, hB9⟩ : ∃ B9, w7.heap.size = B9 := ⟨_, rfl⟩
  rename_i hHeld9
  clear hHeld9
  rw [hW9, hB9]
  rw [hB9] at y0 y1 hs9
  have HB9 := Lib.hid hb9
  clear hW9 k9 hb9 hb x0 x1 hsz hB9 M1 M2 K1 K2 K3
  go_wp2
  go_loopw [26] (fun iv wr => ∃ i : Nat, iv = .int .i64 i ∧ i ≤ 2 ∧ Below W9.heap.size W9 wr) (fun iv _ => 2 - (intOf iv).toNat)
  case atStart => exact ⟨0, rfl, by omega, Below.refl _ _⟩
  case round =>
    obtain ⟨i, rfl, hi2, hbr⟩ := hrel
    by_cases hi : i < 2
    · have hil : (i : Int) < 2 := by omega
      obtain ⟨v, rv, ev, gv, RI, hcv⟩ : ∃ v rv ev gv, RootIn v rv ev gv ∧ wr.cell? ⟨B9, i, none⟩ = some (Value.string v) := by
        rcases i with _ | _ | i
        · exact ⟨a, r1, e1, g1, R1, (hbr.cell (p := ⟨B9, 0, none⟩) hs9).trans y0⟩
        · exact ⟨t, r2, e2, g2, R2, (hbr.cell (p := ⟨B9, 1, none⟩) hs9).trans y1⟩
        · omega
      have hb : Below w.heap.size w wr := HB9.out.trans (hbr.mono HB9.out.size)
      have hq := hbr
      rcases RI.ok with ⟨hg, rfl, rfl⟩ | ⟨hg, rfl, hrr⟩
      · go_wp2_with (first | (go_at_call 27; refine (chain hq (RI.rt _ (E.below hb))).mono ?_; clear hq; rintro e w2 ⟨rfl, hq⟩) | (go_at_call 28; refine (chain hq (RI.sn _)).mono ?_; clear hq; rintro e w3 ⟨rfl, hq⟩))
        exact ⟨⟨i + 1, by go_num, by omega, hq⟩, by simp [intOf]; omega⟩
      · have HRR := Lib.hid hrr
        clear hrr
        go_wp2_with (first | (go_at_call 27; refine (chain hq (RI.rt _ (E.below hb))).mono ?_; clear hq; rintro e w2 ⟨rfl, hq⟩) | (go_at_call 28; refine (chain hq (RI.sn _)).mono ?_; clear hq; rintro e w3 ⟨rfl, hq⟩) | (go_at_call 29; refine (chain hq (HRR.out _ (E.below (HB9.out.trans (hq.mono HB9.out.size))))).mono ?_; clear hq; rintro e w4 ⟨rfl, hq⟩))
        exact ⟨⟨i + 1, by go_num, by omega, hq⟩, by simp [intOf]; omega⟩
    · have hil : ¬ (i : Int) < 2 := by omega
      go_wp2
      go_ret
      exact ⟨rfl, HB9.out.trans (hbr.mono HB9.out.size)⟩
theorem lawRoots (b1 : Bool) (p1 : Option Addr) (n1 c1 : Nat) (l1 l2 : List UInt8) (hl1 : l1.all isDig = true) (hll1 : l1.length ≤ 40) (hl2 : l2.all isDig = true) (hll2 : l2.length ≤ 20) (z : Int) (hz : -128 ≤ z ∧ z ≤ 127) (w : World) (E : Env w)
    (hm1 : ∀ w', Below w.heap.size w w' → Calls Tryz.prog 12 #[.agg #[.bool b1, .slice p1 n1 c1], .int .i64 40] w' fun e w'' => e = .returned (.string (strOf (makeS b1 l1))) ∧ Below w'.heap.size w' w'')
    (hm2 : ∀ w', Below w.heap.size w w' → Calls Tryz.prog 12 #[.agg #[.bool b1, .slice p1 n1 c1], .int .i64 20] w' fun e w'' => e = .returned (.string (strOf (makeS b1 l2))) ∧ Below w'.heap.size w' w'') :
    Calls Tryz.prog 8 #[.agg #[.bool b1, .slice p1 n1 c1], .int .i8 z] w fun e w' => e = .returned (.bool true) ∧ Below w.heap.size w w' := by
  obtain ⟨x, hx, hdx⟩ := made_itoaN b1 hl1 hll1
  obtain ⟨u, hu, hdu⟩ := made_itoaN b1 hl2 hll2
  rw [hx] at hm1
  rw [hu] at hm2
  have hdz : dlen z ≤ 3 := by
    unfold dlen
    exact dec_len_le _ _ (by omega) (by decide)
  have hm := dlen_mul u u 22 22 (by decide) hdu hdu
  have ha := dlen_add (u * u) z 44 (by decide) hm (by omega)
  obtain ⟨r1, e1, g1, R1⟩ := root_in x (by omega)
  obtain ⟨r2, e2, g2, R2⟩ := root_in (u * u + z) (by omega)
  exact lawRoots' b1 p1 n1 c1 z hz w E _ _ _ _ _ r1 r2 e1 e2 g1 g2 hm1 hm2 (fun w E => refMul_any u u w E (by omega) (by omega)) (fun w E => refOf_any z (by omega) (by omega) w E) (fun w E => refAdd_any (u * u) z w E (by omega) (by omega)) R1 R2
end Go.Proofs.YtkekdcmonenciaaGreatDoor.Kl
