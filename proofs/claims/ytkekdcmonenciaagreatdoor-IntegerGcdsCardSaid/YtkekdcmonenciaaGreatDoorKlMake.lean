/- Contracts: Make, which turns a description into an integer. -/
import Derived.Test.YtkekdcmonenciaaGreatDoorKlRefParse
import Derived.Test.YtkekdcmonenciaaGreatDoorKlText
import Derived.Lib.SmallJoins
import Derived.Lib.BufferRead
namespace Go.Proofs.YtkekdcmonenciaaGreatDoor.Kl
open Go Go.RowKit

/-- The digit that a number describes; a description's digits. -/
def dg (z : Int) : UInt8 := UInt8.ofNat (48 + (z % 10).toNat)
def dgs (zs : List Int) (k : Nat) : List UInt8 := (List.range k).map fun j => dg (zs[j]?.getD 0)
theorem dgs_succ (zs : List Int) (k : Nat) : dgs zs (k + 1) = dgs zs k ++ [dg (zs[k]?.getD 0)] := by simp [dgs, List.range_succ]
theorem dgs_length (zs : List Int) (k : Nat) : (dgs zs k).length = k := by simp [dgs]
theorem dg_toNat (z : Int) : ((dg z).toNat : Int) = 48 + z % 10 := by
  have h1 : 0 ≤ z % 10 := Int.emod_nonneg _ (by decide)
  have h2 : z % 10 < 10 := Int.emod_lt_of_pos _ (by decide)
  unfold dg
  rw [UInt8.toNat_ofNat']
  omega
theorem dg_dig (z : Int) : isDig (dg z) = true := by
  have h1 : 0 ≤ z % 10 := Int.emod_nonneg _ (by decide)
  have h2 : z % 10 < 10 := Int.emod_lt_of_pos _ (by decide)
  have := dg_toNat z
  rw [isDig_iff]; omega
theorem dgs_dig (zs : List Int) (k : Nat) : (dgs zs k).all isDig = true := by
  unfold dgs; rw [List.all_map, List.all_eq_true]; intro x _; exact dg_dig _
/-- The integer of a description. -/
def makeA (l : List UInt8) : List UInt8 := if l = [] then [48] else strip1 l
def makeS (b : Bool) (l : List UInt8) : List UInt8 := if b then negDig (makeA l) else makeA l

theorem own_ge {w : World} {B : Nat} {e : TypeId} {size : Nat} {v : Value} {n : Nat} {xs : List Value} (h : w.ownsRow B e size v n xs) : ∀ r, v.ownBlock = some r → B ≤ r := by
  intro r hr
  rcases h.2 with ⟨h1, _⟩ | ⟨g, cap, cur, hv, hg, _⟩
  · subst h1; cases hr
  · subst hv; simp [Value.ownBlock] at hr; omega
theorem bytes_snoc (zs : List Int) (k : Nat) : Lib.byteCells (dgs zs k) ++ [Value.int IntKind.u8 (48 + zs[k]?.getD 0 % 10)] = Lib.byteCells (dgs zs (k + 1)) := by
  rw [dgs_succ]; simp [Lib.byteCells, dg_toNat]
theorem info5 : (Tryz.prog.info? 5).map (fun i => (i.zero, i.size, i.bytes)) = some (some (.int .u8 0), 1, 1) := by kernel_rfl

theorem addr_add' (g j : Nat) : (⟨g, 0, none⟩ : Addr).add j = ⟨g, j, none⟩ := by
  cases j <;> simp [Addr.add]
theorem unsign_dig {l : List UInt8} (h : l.all isDig = true) : unsign l = l := by
  cases l with
  | nil => rfl
  | cons c r =>
    rw [List.all_cons, Bool.and_eq_true] at h
    have h1 := isDig_iff.1 h.1
    unfold unsign
    have h43 : (43 : UInt8).toNat = 43 := rfl
    have h45 : (45 : UInt8).toNat = 45 := rfl
    rw [if_neg]
    simp only [List.head?_cons, Option.some.injEq]
    rintro (e | e) <;> (rw [e] at h1; omega)
theorem parse_dig {l : List UInt8} (h : l.all isDig = true) (h0 : l ≠ []) (hl : l.length ≤ 200) : parseS l = (strip1 l, 0) := by
  have hu := unsign_dig h
  have hd : digB (unsign l) = true := by rw [hu]; exact digB_iff.2 ⟨h, h0⟩
  have hs : (strip (unsign l)).length ≤ 200 := by rw [hu]; have := strip_le l; omega
  rw [strip1_eq l h h0]
  by_cases hz : strip l = []
  · rw [if_pos hz, pe3 h0 hd (by rw [hu]; exact hz)]
  · rw [if_neg hz, pe5 h0 hd (by omega) (by rw [hu]; exact hz) (neg_dig h), hu]
/-- What Make takes from Parse. -/
theorem parse_made (l : List UInt8) (h : l.all isDig = true) (hl : l.length ≤ 200) (w : World) :
    Calls Tryz.prog 34 #[.string ⟨l.toArray⟩] w fun e w' => e = .returned (.tuple #[.string (if l = [] then strOf [] else strOf (strip1 l)), .int .i64 (if l = [] then 13 else 0)]) ∧ Below w.heap.size w w' :=
  (refParse_any (strOf l) w (by rw [strOf_size]; omega)).mono fun _ _ ⟨a, b⟩ => ⟨a.trans (by
    by_cases h0 : l = []
    · subst h0; rfl
    · exact retSI (by rw [strOf_data, parse_dig h h0 hl, if_neg h0]) (by rw [strOf_data, parse_dig h h0 hl, if_neg h0])), b⟩
theorem makeA_dig {l : List UInt8} (h : l.all isDig = true) : digB (makeA l) = true := by
  unfold makeA
  by_cases h0 : l = []
  · rw [if_pos h0]; decide
  · rw [if_neg h0]
    exact digB_tail (D := strOf l) (t := strOf (strip1 l)) (digB_iff.2 ⟨h, h0⟩) rfl

set_option maxRecDepth 100000 in
set_option maxHeartbeats 1000000 in
theorem make_some (b : Bool) (blk off len cap N : Nat) (zs : List Int) (hN : N ≤ 200) (hlen : len ≤ 9223372036854775807) (w : World) (hblk : blk < w.heap.size)
    (hz : ∀ j : Nat, 0 ≤ zs[j]?.getD 0 ∧ zs[j]?.getD 0 ≤ 255)
    (hc : ∀ j, j < len → w.cell? ⟨blk, off + j, none⟩ = some (.int .u8 (zs[j]?.getD 0))) :
    Calls Tryz.prog 12 #[.agg #[.bool b, .slice (some ⟨blk, off, none⟩) len cap], .int .i64 N] w fun e w' => e = .returned (.string (strOf (makeS b (dgs zs (min len N))))) ∧ Below w.heap.size w w' := by
  obtain ⟨i0, hi, hz0, hz1, hz2⟩ := info_parts info5
  go_enter Tryz.func12, Tryz.ntmps12
  go_wp2
  go_loopw [5, 6] (fun v i wr => ∃ k : Nat, k ≤ min len N ∧ i = .int .i64 k ∧ wr.ownsRow (w.heap.size + 1) 5 1 v k (Lib.byteCells (dgs zs k)) ∧ Below (w.heap.size + 1) (w.alloc (.cells #[.bool b, .slice (some ⟨blk, off, none⟩) len cap] 24)) wr) (fun _ i _ => min len N - (intOf i).toNat)
  case atStart => exact ⟨0, Nat.zero_le _, rfl, World.ownsRow_nil _ _ _ _, Below.refl _ _⟩
  case round =>
    obtain ⟨k, hk, rfl, hown, hb⟩ := hrel
    have hcell : k < len → wr.cell? ⟨blk, off + k, none⟩ = some (.int .u8 (zs[k]?.getD 0)) := fun h => by
      rw [hb.cell (p := ⟨blk, off + k, none⟩) (by show blk < w.heap.size + 1; omega), World.cell?_alloc_lt _ _ _ hblk]; exact hc k h
    have e0 : wr.cell? ⟨w.heap.size, 0, none⟩ = some (Value.bool b) := by
      rw [hb.cell (p := ⟨w.heap.size, 0, none⟩) (Nat.lt_succ_self _)]; simp [go_sem]
    have e1 : wr.cell? ⟨w.heap.size, 1, none⟩ = some (Value.slice (some ⟨blk, off, none⟩) len cap) := by
      rw [hb.cell (p := ⟨w.heap.size, 1, none⟩) (Nat.lt_succ_self _)]; simp [go_sem]
    have hsz : w.heap.size + 1 ≤ wr.heap.size := by have := hb.size; simpa using this
    by_cases hlt : k < min len N
    · have hkl : k < len := by omega
      have hkN : k < N := by omega
      have hx := hz k
      have hck := hcell hkl
      clear hcell
      go_wp2_with (at_builtin; refine wpList_append_own _ rfl _ _ 22 rfl (w.heap.size + 1) 5 i0 (.int .u8 0) 1 1 Tryz.underlying22 hi hz0 hz1 hz2 rfl (by decide) _ _ _ rfl (hown.alloc _) ⟨wr.heap.size, 0, none⟩ 1 1 [.int .u8 (48 + (zs[k]?.getD 0) % 10)] rfl rfl ?c1 ?c2 ?c3 ?c4 ?c5 ?_)
      case c1 => exact cell_one_new _ _ _
      case c2 => simp [Value.oneCell']
      case c3 => unfold maxLen; omega
      case c4 => omega
      case c5 => simp only [World.size_alloc]; omega
      intro v' w1 hown1 hgrow _
      rw [bytes_snoc] at hown1
      have hb1 := (hb.alloc hsz (Obj.cells #[Value.int IntKind.u8 (48 + zs[k]?.getD 0 % 10)] 5)).grown hgrow (by simp only [World.size_alloc]; omega) (own_ge hown)
      have HB := Lib.hid hb1
      have HO := Lib.hid hown1
      clear hb hown hgrow hb1 hown1 e0 e1 hck
      go_wp2
      go_roundw
      case rel => exact ⟨k + 1, by omega, by go_num, HO.out, HB.out⟩
      case measure => simp [intOf]; omega
    · have hx : (k < len ∧ N ≤ k) ∨ len ≤ k := by omega
      rcases hx with ⟨hx1, hx2⟩ | hx1
      all_goals
        have hK : k = min len N := by omega
        have hl1 : (dgs zs k).all isDig = true := dgs_dig zs k
        have hl2 : (dgs zs k).length ≤ 200 := by rw [dgs_length]; omega
        have HK := Lib.hid hK
        clear hK hcell
        obtain ⟨l, hl⟩ : ∃ l, dgs zs k = l := ⟨_, rfl⟩
        rw [hl] at hown hl1 hl2
        have hlk : l.length = k := by rw [← hl, dgs_length]
        have HLL := Lib.hid hl
        clear hl
        have hwr : Below w.heap.size w wr := ((Below.refl _ _).alloc (Nat.le_refl _) _).trans (hb.mono (by omega))
        have hpc := parse_made l hl1 hl2
        have hmd := makeA_dig hl1
        by_cases h0 : l = []
        · have hk0 : k = 0 := by rw [← hlk, h0]; rfl
          have hconvs : ∃ v', u5 = v' ∧ (convert 22 9 v').run Tryz.prog wr = .ok (.string ⟨#[]⟩) wr := by
            refine ⟨_, rfl, ?_⟩
            rcases Joins.ownsRow_forms hown with ⟨h1, _⟩ | ⟨g, cp, h1⟩
            · rw [h1]; exact run_convert_bytes_string wr 22 9 5 none 0 0 Tryz.underlying22 Tryz.underlying5 Tryz.underlying9
            · rw [h1, hk0]; exact run_convert_bytes_back (P := Tryz.prog) wr 22 9 5 ⟨g, 0, none⟩ cp [] Tryz.underlying22 Tryz.underlying5 Tryz.underlying9 (fun j hj => by simp at hj)
          obtain ⟨v', hv', hconv⟩ := hconvs
          subst hv'
          have HC := Lib.hid hk0
          subst h0
          rw [if_pos rfl, if_pos rfl] at hpc
          have HP := Lib.hid hpc
          have HWR := Lib.hid hwr
          clear hpc hl1 hl2 hmd hwr hk0 hlk hown
          go_wp2_with (go_at_call 34; refine (HP.out _).mono ?_; rintro e w1 ⟨rfl, hb1⟩; refine Hid.out ?_)
          refine Lib.hid ?_
          have x0 : w1.cell? ⟨w.heap.size, 0, none⟩ = some (Value.bool b) := by rw [hb1.cell (p := ⟨w.heap.size, 0, none⟩) (by show w.heap.size < wr.heap.size; omega)]; exact e0
          have hbb := HWR.out.trans (hb1.mono (by omega))
          clear hb1 e0 e1 hb hconv hsz
          cases b with
          | false =>
            go_wp2
            go_ret
            exact ⟨retS (by rw [← HK.out, HLL.out]; rfl), hbb⟩
          | true =>
            go_wp2_with (go_at_call 35; refine (chain hbb (refNeg_dig ⟨#[48]⟩ _ (by decide) (by decide))).mono ?_; clear hbb; rintro e w2 ⟨rfl, hbb⟩)
            go_ret
            exact ⟨retS (by rw [← HK.out, HLL.out]; rfl), hbb⟩
        · have hne : 0 < k := by rw [← hlk]; exact List.length_pos_iff.2 h0
          obtain ⟨g, cp, rfl⟩ := Joins.ownsRow_form hown hne
          obtain ⟨cur, hg, htk⟩ := row_block hown
          have hbs := Lib.bytes_of_row hg (l := l) (by rw [hlk]; exact htk)
          have hconv := run_convert_bytes_back (P := Tryz.prog) wr 22 9 5 ⟨g, 0, none⟩ cp l Tryz.underlying22 Tryz.underlying5 Tryz.underlying9 hbs
          rw [hlk] at hconv
          rw [if_neg h0, if_neg h0] at hpc
          have hA : makeA l = strip1 l := by unfold makeA; rw [if_neg h0]
          have hend : ∀ c : Bool, strOf (makeS c l) = strOf (if c then negDig (strip1 l) else strip1 l) := fun c => by unfold makeS; rw [hA]
          rw [hA] at hmd
          have HP := Lib.hid hpc
          have HM := Lib.hid hmd
          have HE := Lib.hid hend
          have HWR := Lib.hid hwr
          have hms : (strOf (strip1 l)).size ≤ 1000000 := by
            rw [strOf_size]
            have h3 := strip1_eq l hl1 h0
            have h4 := strip_le l
            rw [h3]; split
            · simp
            · omega
          clear hpc hbs hg htk hl1 hl2 h0 hA hend hmd hwr
          go_wp2_with (go_at_call 34; refine (HP.out _).mono ?_; rintro e w1 ⟨rfl, hb1⟩; refine Hid.out ?_)
          refine Lib.hid ?_
          have x0 : w1.cell? ⟨w.heap.size, 0, none⟩ = some (Value.bool b) := by rw [hb1.cell (p := ⟨w.heap.size, 0, none⟩) (by show w.heap.size < wr.heap.size; omega)]; exact e0
          have hbb := HWR.out.trans (hb1.mono (by omega))
          clear hb1 e0 e1 hb hown hconv hsz hlk
          cases b with
          | false =>
            go_wp2
            go_ret
            exact ⟨retS (by rw [← HK.out, HLL.out, HE.out]; rfl), hbb⟩
          | true =>
            go_wp2_with (go_at_call 35; refine (chain hbb (refNeg_dig (strOf (strip1 l)) _ HM.out hms)).mono ?_; clear hbb; rintro e w2 ⟨rfl, hbb⟩)
            go_ret
            exact ⟨retS (by rw [← HK.out, HLL.out, HE.out]; rfl), hbb⟩

set_option maxRecDepth 100000 in
set_option maxHeartbeats 1000000 in
/-- .. and of no digit at all. -/
theorem make_none (b : Bool) (p : Option Addr) (cap : Nat) (N : Nat) (w : World) :
    Calls Tryz.prog 12 #[.agg #[.bool b, .slice p 0 cap], .int .i64 N] w fun e w' => e = .returned (.string (strOf (makeS b []))) ∧ Below w.heap.size w w' := by
  have hconv : ∀ w, (convert 22 9 (.slice none 0 0)).run Tryz.prog w = .ok (.string ⟨#[]⟩) w := fun w => run_convert_bytes_string w 22 9 5 none 0 0 Tryz.underlying22 Tryz.underlying5 Tryz.underlying9
  have HP := Lib.hid (parse_made [] rfl (by decide))
  go_enter Tryz.func12, Tryz.ntmps12
  go_wp2
  refine wp_loop_rounds 1 ?_
  rw [rounds_succ]
  go_wp2_with (go_at_call 34; refine (HP.out _).mono ?_; rintro e w1 ⟨rfl, hb1⟩; refine Hid.out ?_)
  refine Lib.hid ?_
  have x0 : w1.cell? ⟨w.heap.size, 0, none⟩ = some (Value.bool b) := by rw [hb1.cell (p := ⟨w.heap.size, 0, none⟩) (by simp)]; simp [go_sem]
  have hbb : Below w.heap.size w w1 := ((Below.refl _ _).alloc (Nat.le_refl _) _).trans (hb1.mono (by simp))
  clear hb1
  cases b with
  | false =>
    go_wp2
    go_ret
    exact ⟨rfl, hbb⟩
  | true =>
    go_wp2_with (go_at_call 35; refine (chain hbb (refNeg_dig ⟨#[48]⟩ _ (by decide) (by decide))).mono ?_; clear hbb; rintro e w2 ⟨rfl, hbb⟩)
    go_ret
    exact ⟨rfl, hbb⟩
end Go.Proofs.YtkekdcmonenciaaGreatDoor.Kl
