/- Contracts: the statements' fits: whether numbers are right, and short. -/
import Derived.Test.YtgllflfifbacnaaGreatDoorKlRatK
import Derived.Test.YtgllflfifbacnaaGreatDoorKlKnown2
namespace Go.Proofs.YtgllflfifbacnaaGreatDoor.Kl
open Go Go.RowKit

/-- The text of a right number of at most 80 bytes. -/
def fitP (t : ByteArray) : Prop := t.size ≤ 80 ∧ IsRat t.data.toList
theorem fit_rat {t : ByteArray} (h : fitP t) : ∃ q : Rat, t = ratB q ∧ RL q 80 := by
  obtain ⟨h1, q, e, _⟩ := h
  have e2 : t = ratB q := dat_inj e
  exact ⟨q, e2, RL_of_size (by rw [← e2]; exact h1)⟩
set_option maxRecDepth 100000 in
set_option maxHeartbeats 4000000 in
theorem fits_w (blk n c : Nat) (ts : List ByteArray) (hn : ts.length = n) (hnb : n ≤ 10) (r : Bool) (hr : r = true ↔ ∀ t, t ∈ ts → fitP t) (w : World) (R : EnvR w)
    (hm : ∀ t, t ∈ ts → t.size ≤ 9223372036854775807) (hc : ∀ (j : Nat) (t : ByteArray), ts[j]? = some t → w.cell? ⟨blk, j, none⟩ = some (.string t)) :
    Calls Tryz.prog 30 #[.slice (some ⟨blk, 0, none⟩) n c] w fun e w' => e = .returned (.bool r) ∧ Below w.heap.size w w' := by
  have HC := Lib.hid hc
  have HM := Lib.hid hm
  have HR := Lib.hid hr
  have HN := Lib.hid hn
  clear hc hm hr hn
  go_enter Tryz.func30, Tryz.ntmps30
  go_wp2
  go_loopw [3] (fun i wr => ∃ k : Nat, k ≤ n ∧ i = .int .i64 k ∧ (∀ t, t ∈ ts.take k → fitP t) ∧ Below w.heap.size w wr) (fun i _ => n - (intOf i).toNat)
  case atStart => exact ⟨0, Nat.zero_le _, rfl, by simp, Below.refl _ _⟩
  case round =>
    obtain ⟨k, hk, rfl, hall, hb⟩ := hrel
    have HA := Lib.hid hall
    clear hall
    by_cases hlt : k < n
    · obtain ⟨t, ht⟩ : ∃ t, ts[k]? = some t := ⟨_, List.getElem?_eq_getElem (by rw [HN.out]; exact hlt)⟩
      have x0 : wr.cell? ⟨blk, k, none⟩ = some (.string t) := below_cell hb (HC.out k t ht)
      have hmem : t ∈ ts := List.mem_of_getElem? ht
      have hms := HM.out t hmem
      have HMEM := Lib.hid hmem
      have htk : ∀ u, u ∈ ts.take (k + 1) → u ∈ ts.take k ∨ u = t := by
        intro u hu
        rw [List.take_add_one, ht] at hu
        rcases List.mem_append.1 hu with h | h
        · exact Or.inl h
        · exact Or.inr (by simpa using h)
      have HT := Lib.hid htk
      clear hmem htk ht
      by_cases h80 : t.size ≤ 80
      · have h80i : (t.size : Int) ≤ 80 := by omega
        by_cases hi : IsRat t.data.toList
        · have CR := Lib.hid (fun (w : World) (R : EnvR w) => refRRight_any t true ⟨fun _ => hi, fun _ => rfl⟩ (by omega) w R)
          have HF : Hid (fitP t) := Lib.hid ⟨h80, hi⟩
          clear hi
          go_wp2_with (go_at_call 14; (with_reducible refine (chain2 hb (CR.out _ (R.below hb))).mono ?_); clear hb; rintro e w1 ⟨rfl, hk2, hb⟩; clear hk2)
          go_roundw
          case rel => exact ⟨k + 1, by omega, by go_num, fun u hu => (HT.out u hu).elim (HA.out u) (fun e => e ▸ HF.out), hb⟩
          case measure => simp [intOf]; omega
        · have CR := Lib.hid (fun (w : World) (R : EnvR w) => refRRight_any t false ⟨fun h => (by cases h), fun h => absurd h hi⟩ (by omega) w R)
          have hf : r = false := by
            cases r with
            | false => rfl
            | true => exact absurd (HR.out.1 rfl t HMEM.out).2 hi
          clear hi
          go_wp2_with (go_at_call 14; (with_reducible refine (chain2 hb (CR.out _ (R.below hb))).mono ?_); clear hb; rintro e w1 ⟨rfl, hk2, hb⟩; clear hk2)
          go_ret
          exact ⟨retB hf.symm, hb⟩
      · have h80i : (80 : Int) < (t.size : Int) := by omega
        have hf : r = false := by
          cases r with
          | false => rfl
          | true => exact absurd (HR.out.1 rfl t HMEM.out).1 h80
        go_wp2
        go_ret
        exact ⟨retB hf.symm, hb⟩
    · have ek : k = n := by omega
      have ht : r = true := HR.out.2 (fun t ht => HA.out t (by rw [List.take_of_length_le (by rw [HN.out]; omega)]; exact ht))
      go_wp2
      go_ret
      exact ⟨retB ht.symm, hb⟩
theorem fits1 (a : ByteArray) (r : Bool) (hr : r = true ↔ (fitP a)) (w : World) (R : EnvR w) (za : a.size ≤ 9223372036854775807) :
    Calls Tryz.prog 30 #[.slice (some ⟨w.heap.size, 0, none⟩) 1 1] (w.alloc (Obj.cells #[Value.string a] 22)) fun e w' => e = .returned (.bool r) ∧ Below w.heap.size w w' := by
  have hba : Below w.heap.size w (w.alloc (Obj.cells #[Value.string a] 22)) := (Below.refl _ _).alloc (Nat.le_refl _) _
  refine (fits_w w.heap.size 1 1 [a] rfl (by decide) r (hr.trans (by simp)) _ (R.below hba) (by simp; exact za) ?_).mono fun e w' h => ⟨h.1, hba.trans (h.2.mono hba.size)⟩
  intro j t h
  match j, h with
  | 0, h => injection h with h; subst h; simp [go_sem]
  | j + 1, h => simp at h
theorem fits2 (a b : ByteArray) (r : Bool) (hr : r = true ↔ (fitP a ∧ fitP b)) (w : World) (R : EnvR w) (za : a.size ≤ 9223372036854775807) (zb : b.size ≤ 9223372036854775807) :
    Calls Tryz.prog 30 #[.slice (some ⟨w.heap.size, 0, none⟩) 2 2] (w.alloc (Obj.cells #[Value.string a, Value.string b] 22)) fun e w' => e = .returned (.bool r) ∧ Below w.heap.size w w' := by
  have hba : Below w.heap.size w (w.alloc (Obj.cells #[Value.string a, Value.string b] 22)) := (Below.refl _ _).alloc (Nat.le_refl _) _
  refine (fits_w w.heap.size 2 2 [a, b] rfl (by decide) r (hr.trans (by simp)) _ (R.below hba) (by simp; exact ⟨za, zb⟩) ?_).mono fun e w' h => ⟨h.1, hba.trans (h.2.mono hba.size)⟩
  intro j t h
  match j, h with
  | 0, h => injection h with h; subst h; simp [go_sem]
  | 1, h => injection h with h; subst h; simp [go_sem]
  | j + 2, h => simp at h
theorem fits3 (a b c : ByteArray) (r : Bool) (hr : r = true ↔ (fitP a ∧ fitP b ∧ fitP c)) (w : World) (R : EnvR w) (za : a.size ≤ 9223372036854775807) (zb : b.size ≤ 9223372036854775807) (zc : c.size ≤ 9223372036854775807) :
    Calls Tryz.prog 30 #[.slice (some ⟨w.heap.size, 0, none⟩) 3 3] (w.alloc (Obj.cells #[Value.string a, Value.string b, Value.string c] 22)) fun e w' => e = .returned (.bool r) ∧ Below w.heap.size w w' := by
  have hba : Below w.heap.size w (w.alloc (Obj.cells #[Value.string a, Value.string b, Value.string c] 22)) := (Below.refl _ _).alloc (Nat.le_refl _) _
  refine (fits_w w.heap.size 3 3 [a, b, c] rfl (by decide) r (hr.trans (by simp)) _ (R.below hba) (by simp; exact ⟨za, zb, zc⟩) ?_).mono fun e w' h => ⟨h.1, hba.trans (h.2.mono hba.size)⟩
  intro j t h
  match j, h with
  | 0, h => injection h with h; subst h; simp [go_sem]
  | 1, h => injection h with h; subst h; simp [go_sem]
  | 2, h => injection h with h; subst h; simp [go_sem]
  | j + 3, h => simp at h
end Go.Proofs.YtgllflfifbacnaaGreatDoor.Kl
