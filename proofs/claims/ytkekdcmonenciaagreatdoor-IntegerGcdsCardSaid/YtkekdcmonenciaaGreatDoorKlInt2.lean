/- Contracts of package integer's functions over ints, and of the reference's on texts. -/
import Derived.Test.YtkekdcmonenciaaGreatDoorKlInt
namespace Go.Proofs.YtkekdcmonenciaaGreatDoor.Kl
open Go Go.RowKit

theorem itoa_call (n : Int) (h0 : -9223372036854775808 ≤ n) (h1 : n ≤ 9223372036854775807) (w : World) (E : Env w) :
    Calls Tryz.prog 60 #[.int .i64 n] w fun e w' => e = .returned (.string (itoaB n)) ∧ Below w.heap.size w w' :=
  (Tryz.strconv_Itoa n h0 h1 w E.tab).mono fun _ _ ⟨h, k, os, e⟩ => ⟨h, by rw [e]; exact below_grow _ _ _⟩
set_option maxHeartbeats 400000 in
theorem of_any (n : Int) (h0 : -9223372036854775808 ≤ n) (h1 : n ≤ 9223372036854775807) (w : World) (E : Env w) :
    Calls Tryz.prog 37 #[.int .i64 n] w fun e w' => e = .returned (.string (itoaB n)) ∧ Below w.heap.size w w' := by
  go_enter Tryz.func37, Tryz.ntmps37
  go_wp2_with (go_at_call 60; refine (itoa_call _ h0 h1 _ E).mono ?_; rintro e w1 ⟨rfl, hb1⟩)
  go_ret
  exact ⟨rfl, hb1⟩
set_option maxHeartbeats 400000 in
theorem refOf_any (n : Int) (h0 : -9223372036854775808 ≤ n) (h1 : n ≤ 9223372036854775807) (w : World) (E : Env w) :
    Calls Tryz.prog 26 #[.int .i64 n] w fun e w' => e = .returned (.string (itoaB n)) ∧ Below w.heap.size w w' := by
  go_enter Tryz.func26, Tryz.ntmps26
  go_wp2_with (go_at_call 60; refine (itoa_call _ h0 h1 _ E).mono ?_; rintro e w1 ⟨rfl, hb1⟩)
  go_ret
  exact ⟨rfl, hb1⟩

/-- strconv.ParseInt(s, 10, 64) at a text that is read. -/
theorem parseInt_ok (s : ByteArray) (hs : s.size ≤ 1000000) (v : Int) (h : Lib.parseIntB 64 s.data.toList = .ok v) (w : World) :
    Calls Tryz.prog 95 #[.string s, .int .i64 10, .int .i64 64] w fun e w' => e = .returned (.tuple #[.int .i64 v, .nilIface]) ∧ Below w.heap.size w w' :=
  (Tryz.strconv_ParseInt_10_at64_ok s (by omega) v h w).mono fun _ _ ⟨a, b⟩ => ⟨a, by
    rcases b with rfl | ⟨t, rfl⟩
    · exact Below.refl _ _
    · exact Lib.bytesWorld_below _ _ _⟩
/-- At one that is not: some error. -/
theorem parseInt_err (s : ByteArray) (hs : s.size ≤ 1000000) (h : ∀ v, Lib.parseIntB 64 s.data.toList ≠ .ok v) (w : World) (E : Env w) :
    Calls Tryz.prog 95 #[.string s, .int .i64 10, .int .i64 64] w fun e w' => ∃ (v : Int) (N : Nat), e = .returned (.tuple #[.int .i64 v, .iface 138 (.pointer (some ⟨N, 0, none⟩))]) ∧ Below w.heap.size w w' := by
  cases hp : Lib.parseIntB 64 s.data.toList with
  | ok v => exact absurd hp (h v)
  | range =>
    obtain ⟨tp, p, hv⟩ := E.erng
    exact (Tryz.strconv_ParseInt_10_at64_range_var s (by omega) hp tp p w hv).mono fun _ _ ⟨N, a, _, _, b⟩ => ⟨_, N, a, b⟩
  | _ =>
    obtain ⟨tp, p, hv⟩ := E.esyn
    have c : Calls Tryz.prog 95 #[.string s, .int .i64 10, .int .i64 64] w fun e w' => ∃ N, e = .returned (.tuple #[.int .i64 (0), .iface 138 (.pointer (some ⟨N, 0, none⟩))]) ∧ w.heap.size ≤ N ∧ w'.heap[N]? = some (.cells #[.string ⟨#[80, 97, 114, 115, 101, 73, 110, 116]⟩, .string s, .iface tp p] 153 (0, 0)) ∧ Below w.heap.size w w' :=
      Any.strconv_ParseInt_10_at64_syntax_var Tryz.laysC174 s (by omega) hp tp p w hv
    exact c.mono fun _ _ ⟨N, a, _, _, b⟩ => ⟨_, N, a, b⟩

theorem smallV_long {s : ByteArray} (h : 20 < s.size) : smallV s.data.toList = none := by
  unfold smallV; rw [if_pos (by rw [← size_len]; exact h)]
theorem smallV_ok {s : ByteArray} (h : s.size ≤ 20) {v : Int} (hp : Lib.parseIntB 64 s.data.toList = .ok v) : smallV s.data.toList = some v := by
  unfold smallV; rw [if_neg (by rw [← size_len]; omega), hp]
theorem smallV_err {s : ByteArray} (h : s.size ≤ 20) (hp : ∀ v, Lib.parseIntB 64 s.data.toList ≠ .ok v) : smallV s.data.toList = none := by
  unfold smallV; rw [if_neg (by rw [← size_len]; omega)]
  cases hq : Lib.parseIntB 64 s.data.toList with
  | ok v => exact absurd hq (hp v)
  | range => rfl
  | _ => rfl

set_option maxHeartbeats 400000 in
theorem small_any (s : ByteArray) (w : World) (hs : s.size ≤ 1000000) (E : Env w) :
    Calls Tryz.prog 68 #[.string s] w fun e w' => e = .returned (.tuple #[.int .i64 (smI s.data.toList), .bool (smB s.data.toList)]) ∧ Below w.heap.size w w' := by
  by_cases hl : 20 < s.size
  · have h1 := smallV_long hl
    have H1 := Lib.hid h1
    clear h1
    go_enter Tryz.func68, Tryz.ntmps68
    go_wp2
    go_ret2
    exact ⟨retIB (by unfold smI; rw [H1.out]; rfl) (by unfold smB; rw [H1.out]; rfl), Below.refl _ _⟩
  · by_cases hp : ∃ v, Lib.parseIntB 64 s.data.toList = .ok v
    · obtain ⟨v, hv⟩ := hp
      have h1 := smallV_ok (by omega) hv
      have H1 := Lib.hid h1
      have HV := Lib.hid hv
      clear h1 hv
      go_enter Tryz.func68, Tryz.ntmps68
      go_wp2_with (go_at_call 95; refine (parseInt_ok _ hs v HV.out _).mono ?_; rintro e w1 ⟨rfl, hb1⟩)
      go_ret2
      exact ⟨retIB (by unfold smI; rw [H1.out]; rfl) (by unfold smB; rw [H1.out]; rfl), hb1⟩
    · have hp' : ∀ v, Lib.parseIntB 64 s.data.toList ≠ .ok v := fun v h => hp ⟨v, h⟩
      have h1 := smallV_err (by omega) hp'
      have H1 := Lib.hid h1
      have HP := Lib.hid hp'
      clear h1 hp' hp
      go_enter Tryz.func68, Tryz.ntmps68
      go_wp2_with (go_at_call 95; refine (parseInt_err _ hs HP.out _ E).mono ?_; rintro e w1 ⟨v, N, rfl, hb1⟩)
      go_ret2
      exact ⟨retIB (by unfold smI; rw [H1.out]; rfl) (by unfold smB; rw [H1.out]; rfl), hb1⟩

set_option maxHeartbeats 400000 in
theorem sign_zero (s : ByteArray) (w : World) (h : s.data.toList = [48]) :
    Calls Tryz.prog 31 #[.string s] w fun e w' => e = .returned (.int .i64 0) ∧ w = w' := by
  have e : s = strOf [48] := eq_strOf h
  subst e
  unfold strOf
  go_enter Tryz.func31, Tryz.ntmps31
  go_wp2
  go_ret
  exact ⟨rfl, rfl⟩
end Go.Proofs.YtkekdcmonenciaaGreatDoor.Kl
