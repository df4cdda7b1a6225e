/- Contracts: the program's appendPiece. -/
import Derived.Test.YtkekdcmonenciaaGreatDoorKlNumb
import Derived.Lib.AppendStr
namespace Go.Proofs.YtkekdcmonenciaaGreatDoor.Kl
open Go Go.RowKit

/-- Only rows of bytes, from block B on, may have changed. -/
structure Grows (B : Nat) (w w' : World) : Prop where
  below : Below B w w'
  keep : ∀ (k : Nat) (o : Obj), w.heap[k]? = some o → (∀ cs fz, o ≠ Obj.cells cs 5 fz) → w'.heap[k]? = some o
theorem info_u8 : (Tryz.prog.info? 5).map (fun i => (i.zero, i.size, i.bytes)) = some (some (.int .u8 0), 1, 1) := by kernel_rfl
theorem bc_set (l : List UInt8) (i : Nat) (z : Int) (c : UInt8) (hz : z = (c.toNat : Int)) : (Lib.byteCells l).set i (.int .u8 z) = Lib.byteCells (l.set i c) := by
  subst hz; unfold Lib.byteCells; rw [List.map_set]
theorem dig_nat (P : Nat) : ((UInt8.ofNat (48 + P % 10)).toNat : Int) = 48 + (P : Int) % 10 := by
  have : (UInt8.ofNat (48 + P % 10)).toNat = 48 + P % 10 := by rw [UInt8.toNat_ofNat']; omega
  rw [this]; omega

set_option maxRecDepth 100000 in
set_option maxHeartbeats 2000000 in
theorem appendPiece_any (B : Nat) (v : Value) (n : Nat) (xs : List Value) (p : Nat) (w : World) (hp : p < 1000000000) (hn : n ≤ 1000000) (hown : w.ownsRow B 5 1 v n xs) (hB : B ≤ w.heap.size) :
    Calls Tryz.prog 73 #[v, .int .i64 p] w fun e w' => ∃ v', e = .returned v' ∧ w'.ownsRow B 5 1 v' (n + 9) (xs ++ Lib.byteCells (low 9 p)) ∧ Grows B w w' := by
  obtain ⟨i0, hi, hz0, hz1, hz2⟩ := info_parts info_u8
  have HXL : Hid (xs.length = n) := Lib.hid (by have := hown.1; omega)
  go_enter Tryz.func73, Tryz.ntmps73
  go_wp2_with (at_builtin; refine Lib.wpList_append_own_string _ rfl _ _ 22 9 rfl B 5 i0 Tryz.underlying22 (by kernel_rfl) hi hz0 hz1 hz2 v n xs rfl hown ⟨#[48, 48, 48, 48, 48, 48, 48, 48, 48]⟩ rfl ?c1 ?c2 hB ?_)
  case c1 => show n + 9 ≤ maxLen; unfold maxLen; omega
  case c2 => show n + 9 ≤ _; omega
  intro v' w1 hown1 hgrow _
  change w1.ownsRow B 5 1 v' (n + 9) _ at hown1
  obtain ⟨g, cap, rfl⟩ := Joins.ownsRow_form hown1 (by omega)
  have hbv := own_ge3 hown
  have hG : Grows B w w1 := ⟨(Below.refl B w).grown hgrow hB hbv, fun k o hk hne => by
    have hlt : k < w.heap.size := by
      by_cases hn : k < w.heap.size
      · exact hn
      · rw [Array.getElem?_eq_none (by omega)] at hk; cases hk
    refine (hgrow.block k hlt (fun e => ?_)).trans hk
    rcases hown.2 with ⟨h1, _⟩ | ⟨g0, cap0, cur0, hv, _, hh, _⟩
    · subst h1; cases e
    · subst hv
      obtain rfl : k = g0 := by simpa [Value.ownBlock] using e
      rw [hh] at hk
      exact hne cur0 (0, 0) (Option.some.inj hk).symm⟩
  have HO : Hid (w1.ownsRow B 5 1 (.slice (some ⟨g, 0, none⟩) (n + 9) cap) (n + 9) (xs ++ Lib.byteCells (padAt 0 p))) := hown1
  have HG := Lib.hid hG
  have HBG : Hid (B ≤ g) := Lib.hid (own_ge3 hown1 g rfl)
  clear hown1 hgrow hG hbv hown
  go_wp2
  go_loopw [5, 1] (fun iv pv wr => ∃ j : Nat, j ≤ 9 ∧ iv = .int .i64 ((n : Int) + 8 - j) ∧ pv = .int .i64 ((p / 10 ^ j : Nat) : Int) ∧ wr.ownsRow B 5 1 (.slice (some ⟨g, 0, none⟩) (n + 9) cap) (n + 9) (xs ++ Lib.byteCells (padAt j p)) ∧ Grows B w wr) (fun _ pv _ => (intOf pv).toNat)
  case atStart => exact ⟨0, by omega, by go_num, by simp, HO.out, HG.out⟩
  case round =>
    obtain ⟨j, hj, rfl, rfl, hown, hG⟩ := hrel
    have HO2 := Lib.hid hown
    have HG2 := Lib.hid hG
    clear hown hG HO HG
    have hPb : p / 10 ^ j < 1000000000 := Nat.lt_of_le_of_lt (Nat.div_le_self _ _) hp
    have hstep := padAt_step j p
    have hend := padAt_end j p hj
    have hdiv : p / 10 ^ j / 10 = p / 10 ^ (j + 1) := by rw [Nat.pow_succ, Nat.div_div_eq_div_mul]
    have hj9 : j = 9 → p / 10 ^ j = 0 := fun e => by rw [e]; exact Nat.div_eq_of_lt hp
    obtain ⟨P, hP⟩ : ∃ P, p / 10 ^ j = P := ⟨_, rfl⟩
    rw [hP] at hPb hstep hend hdiv hj9 ⊢
    by_cases h0 : P = 0
    · subst h0
      have HE := Lib.hid (hend rfl)
      clear hstep hend hdiv hj9 hP
      go_wp2
      go_ret
      exact ⟨_, rfl, by rw [← HE.out]; exact HO2.out, HG2.out⟩
    · have hj8 : j < 9 := by
        rcases Nat.lt_or_ge j 9 with h | h
        · exact h
        · exact absurd (hj9 (by omega)) h0
      obtain ⟨ip, hip⟩ : ∃ ip : Nat, (n : Int) + 8 - j = ip := ⟨n + 8 - j, by omega⟩
      have hpos : (0 : Int) < (P : Int) := by omega
      have hlt : (ip : Int) < ((n + 9 : Nat) : Int) := by omega
      have hcf : wr.frozen? ⟨g, ip, none⟩ = false := HO2.out.frozenAt ip
      obtain ⟨u0, hcc⟩ : ∃ u0, wr.cell? ⟨g, ip, none⟩ = some u0 := by
        rw [HO2.out.cellAt ip (by omega)]
        exact ⟨_, List.getElem?_eq_getElem (by have := HO2.out.1; omega)⟩
      have hst := (HO2.out.stored ip (.int .u8 (48 + (P : Int) % 10))).1
      have hset : (xs ++ Lib.byteCells (padAt j p)).set ip (.int .u8 (48 + (P : Int) % 10)) = xs ++ Lib.byteCells (padAt (j + 1) p) := by
        have hx := HXL.out
        rw [List.set_append_right _ _ (by omega), show ip - xs.length = 8 - j by omega, bc_set _ _ _ (UInt8.ofNat (48 + P % 10)) (dig_nat P).symm, hstep hj8]
      rw [hset] at hst
      have HST := Lib.hid hst
      have HDIV := Lib.hid hdiv
      have HIP := Lib.hid hip
      rw [hip]
      clear hst hset hstep hend hdiv hj9 hP hip
      go_wp2
      have hgs : Grows B w (wr.setCell ⟨g, ip, none⟩ (.int .u8 (48 + (P : Int) % 10))) := ⟨HG2.out.below.setCell HBG.out _, fun k o hk hne => by
        rw [heap_set_other _ _ _ _ _ (fun e => ?_)]
        · exact HG2.out.keep k o hk hne
        · have h1 := HG2.out.keep k o hk hne
          rw [e] at h1
          obtain ⟨cur, hh, _⟩ := row_block HO2.out
          rw [hh] at h1
          exact hne cur (0, 0) (Option.some.inj h1).symm⟩
      exact ⟨⟨j + 1, by omega, by have := HIP.out; congr 1; omega, by rw [← HDIV.out]; congr 1, HST.out, hgs⟩, by simp [intOf]; omega⟩
end Go.Proofs.YtkekdcmonenciaaGreatDoor.Kl
