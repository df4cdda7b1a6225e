/- Contracts of package integer's small functions. -/
import Derived.Test.YtkekdcmonenciaaGreatDoorKlShelf
import Derived.WalkKit
import Derived.WalkSpells
import Derived.WalkLawsBesides
import Derived.Lib.Hide
import Derived.Outline
import Derived.LoopTactic
import Derived.Lib.AppendIntMem
import Derived.Sort.Grow
import Derived.Lib.AtoiErrMem
import Derived.Test.YtkekdcmonenciaaGreatDoorKlNum
import Derived.Deep.QuietTactic
import Derived.BigQuiet
namespace Go.Proofs.YtkekdcmonenciaaGreatDoor.Kl
open Go Go.RowKit

theorem retB {a b : Bool} (h : a = b) : Ending.returned (.bool a) = .returned (.bool b) := by rw [h]
theorem retI {k : IntKind} {a b : Int} (h : a = b) : Ending.returned (.int k a) = .returned (.int k b) := by rw [h]
theorem retS {a b : ByteArray} (h : a = b) : Ending.returned (.string a) = .returned (.string b) := by rw [h]
theorem retIB {k : IntKind} {a b : Int} {x y : Bool} (h : a = b) (g : x = y) : Ending.returned (.tuple #[.int k a, .bool x]) = .returned (.tuple #[.int k b, .bool y]) := by rw [h, g]
theorem retSI {k : IntKind} {a b : ByteArray} {x y : Int} (h : a = b) (g : x = y) : Ending.returned (.tuple #[.string a, .int k x]) = .returned (.tuple #[.string b, .int k y]) := by rw [h, g]
theorem retBS {a b : ByteArray} {x y : Bool} (h : x = y) (g : a = b) : Ending.returned (.tuple #[.bool x, .string a]) = .returned (.tuple #[.bool y, .string b]) := by rw [h, g]

/-- What a named variable holds stays, while the world grows. -/
theorem var_stays {P : Program} {w w' : World} {n : String} {cs : Array Value} (h : w.var? P n = some cs) (hb : Below w.heap.size w w') : w'.var? P n = some cs := by
  unfold World.var? at *
  cases hg : P.globalNamed n with
  | none => simp [hg] at h
  | some g =>
    simp only [hg, Option.bind_some] at h ⊢
    have hlt : g < w.heap.size := by
      by_cases hn : g < w.heap.size
      · exact hn
      · rw [Array.getElem?_eq_none (by omega)] at h; simp at h
    rw [hb.block g hlt]; exact h

/-- What the library's own tables and sentinels hold. -/
structure Env (w : World) : Prop where
  tab : Lib.TabIs Tryz.prog w "internal/strconv.uint64pow10" .u64 Lib.pow10Tab
  esyn : ∃ tp p, w.var? Tryz.prog "strconv.ErrSyntax" = some #[.iface tp p]
  erng : ∃ tp p, w.var? Tryz.prog "strconv.ErrRange" = some #[.iface tp p]

theorem Env.below {w w' : World} (h : Env w) (hb : Below w.heap.size w w') : Env w' := by
  obtain ⟨a, ⟨t1, p1, b⟩, ⟨t2, p2, c⟩⟩ := h
  exact ⟨var_stays a hb, ⟨t1, p1, var_stays b hb⟩, ⟨t2, p2, var_stays c hb⟩⟩

theorem below_grow (w : World) (k : Nat) (os : Array Obj) : Below w.heap.size w (Sort.grow (w.drewN k) os) :=
  ⟨rfl, rfl, rfl, by show w.heap.size ≤ (w.heap ++ os).size; rw [Array.size_append]; omega, fun j hj => by
    show (w.heap ++ os)[j]? = w.heap[j]?
    rw [Array.getElem?_append_left hj]⟩

theorem trimPrefix_call (s p : ByteArray) (w : World) :
    Calls Tryz.prog 79 #[.string s, .string p] w fun e w' => e = .returned (.string ⟨(Lib.trimPrefix s.data.toList p.data.toList).toArray⟩) ∧ w = w' :=
  (Tryz.strings_TrimPrefix s p w).mono fun _ _ ⟨h, k⟩ => ⟨h, k.symm⟩

theorem below_drewN (w : World) (n : Nat) : Below w.heap.size w (w.drewN n) := ⟨rfl, rfl, rfl, Nat.le_refl _, fun _ _ => rfl⟩
/-- A text as a string. -/
def strOf (l : List UInt8) : ByteArray := ⟨l.toArray⟩
theorem strOf_data (l : List UInt8) : (strOf l).data.toList = l := rfl
theorem strOf_size (l : List UInt8) : (strOf l).size = l.length := by simp [strOf, ByteArray.size]
theorem eq_strOf {s : ByteArray} {l : List UInt8} (h : s.data.toList = l) : s = strOf l := by
  subst h; rfl
theorem size_len (s : ByteArray) : s.size = s.data.toList.length := by rw [Array.length_toList]; rfl
/-- What stands behind the sign, as a string. -/
def magB (s : ByteArray) : ByteArray := strOf (mag s.data.toList)
def itoaB (n : Int) : ByteArray := strOf (Lib.itoa n)
theorem magB_data (s : ByteArray) : (magB s).data.toList = mag s.data.toList := rfl
theorem magB_size (s : ByteArray) : (magB s).size = (mag s.data.toList).length := strOf_size _
theorem magB_le (s : ByteArray) : (magB s).size ≤ s.size := by rw [magB_size, mag_length, size_len]; omega

set_option maxHeartbeats 400000 in
theorem magnitude_any (s : ByteArray) (w : World) :
    Calls Tryz.prog 51 #[.string s] w fun e w' => e = .returned (.string (magB s)) ∧ w = w' := by
  go_enter Tryz.func51, Tryz.ntmps51
  go_wp2_with (go_at_call 79; refine (trimPrefix_call _ _ _).mono ?_; rintro e w' ⟨rfl, rfl⟩)
  go_ret
  exact ⟨retS (by rw [trimPrefix_minus]; rfl), rfl⟩

set_option maxHeartbeats 400000 in
theorem isDigits_any (s : ByteArray) (w : World) (hs : s.size ≤ maxLen) :
    Calls Tryz.prog 66 #[.string s] w fun e w' => e = .returned (.bool (digB s.data.toList)) ∧ w = w' := by
  unfold maxLen at hs
  go_enter Tryz.func66, Tryz.ntmps66
  go_wp2
  go_loop [6] (fun i => ∃ k : Nat, k ≤ s.size ∧ i = .int .i64 k ∧ (s.data.toList.take k).all isDig = true) (fun i => s.size - (intOf i).toNat)
  case atStart => exact ⟨0, Nat.zero_le _, rfl, rfl⟩
  case round =>
    obtain ⟨k, hk, rfl, hall⟩ := hrel
    have HA := Lib.hid hall
    clear hall
    by_cases hlt : k < s.size
    · go_wp2
      · go_ret
        have hd : 9 < ((s[k].toNat : Int) - 48) % 256 := by assumption
        exact ⟨retB (digB_false_at s k hlt (isDig_false_of hd)).symm, rfl⟩
      · have hd : ((s[k].toNat : Int) - 48) % 256 ≤ 9 := by assumption
        go_round
        case rel => exact ⟨k + 1, by omega, by go_num, all_step s k hlt HA.out (isDig_true_of hd)⟩
        case measure => simp [intOf]; omega
    · go_wp2
      go_ret
      have e : k = s.size := by omega
      subst e
      exact ⟨retB (digB_end s HA.out).symm, rfl⟩

/-- Facts on a byte, in the walk's spelling. -/
theorem byte_eq {c d : UInt8} {k : Int} (hk : k = (d.toNat : Int)) (h : c = d) : ((c.toNat : Int) == k) = true := by subst hk; subst h; simp
theorem byte_ne {c d : UInt8} {k : Int} (hk : k = (d.toNat : Int)) (h : c ≠ d) : ((c.toNat : Int) == k) = false := by
  subst hk
  rw [beq_eq_false_iff_ne]
  intro e
  exact h (UInt8.toNat.inj (by omega))
theorem neg_of (s : ByteArray) (h : 0 < s.size) : neg s.data.toList = (s[0] == 45) := by
  obtain ⟨⟨l⟩⟩ := s
  cases l with
  | nil => simp [ByteArray.size] at h
  | cons c r => rw [neg_cons]; rfl
theorem neg_empty (s : ByteArray) (h : s.size = 0) : neg s.data.toList = false := by
  rw [size_len, List.length_eq_zero_iff] at h; rw [h]; rfl
theorem magB_minus (s : ByteArray) (h : neg s.data.toList = true) : s.extract 1 s.size = magB s := by
  apply eq_strOf
  rw [Lib.extract_to_end]
  unfold mag; rw [h]; simp
theorem magB_plus (s : ByteArray) (h : neg s.data.toList = false) : s = magB s := by
  apply eq_strOf; rw [mag_pos h]

set_option maxHeartbeats 400000 in
theorem split_minus (s : ByteArray) (w : World) (h0 : 0 < s.size) (h1 : neg s.data.toList = true) :
    Calls Tryz.prog 42 #[.string s] w fun e w' => e = .returned (.tuple #[.bool true, .string (magB s)]) ∧ Below w.heap.size w w' := by
  have h2 : ((s[0].toNat : Int) == 45) = true := byte_eq (d := 45) rfl (by rw [neg_of s h0] at h1; simpa using h1)
  have h0' : (0 : Int) < (s.size : Int) := by omega
  have HH := Lib.hid h1
  clear h1
  go_enter Tryz.func42, Tryz.ntmps42
  go_wp2
  go_quiet (fail)
  go_wp2
  go_ret2
  exact ⟨retBS rfl (magB_minus s HH.out), below_drewN _ _⟩

set_option maxHeartbeats 400000 in
theorem split_plus (s : ByteArray) (w : World) (h1 : neg s.data.toList = false) :
    Calls Tryz.prog 42 #[.string s] w fun e w' => e = .returned (.tuple #[.bool false, .string (magB s)]) ∧ Below w.heap.size w w' := by
  by_cases h0 : 0 < s.size
  · have h2 : ((s[0].toNat : Int) == 45) = false := byte_ne (d := 45) rfl (by rw [neg_of s h0] at h1; simpa using h1)
    have h0' : (0 : Int) < (s.size : Int) := by omega
    have HH := Lib.hid h1
    clear h1
    go_enter Tryz.func42, Tryz.ntmps42
    go_wp2
    go_ret2
    exact ⟨retBS rfl (magB_plus s HH.out), Below.refl _ _⟩
  · have h0' : s.size = 0 := by omega
    have HH := Lib.hid h1
    clear h1
    go_enter Tryz.func42, Tryz.ntmps42
    go_wp2
    go_ret2
    exact ⟨retBS rfl (magB_plus s HH.out), Below.refl _ _⟩

theorem split_any (s : ByteArray) (w : World) (b : Bool) (h : neg s.data.toList = b) :
    Calls Tryz.prog 42 #[.string s] w fun e w' => e = .returned (.tuple #[.bool b, .string (magB s)]) ∧ Below w.heap.size w w' := by
  cases b
  · exact split_plus s w h
  · refine split_minus s w ?_ h
    rcases Nat.eq_zero_or_pos s.size with e | e
    · rw [neg_empty s e] at h; cases h
    · exact e
end Go.Proofs.YtkekdcmonenciaaGreatDoor.Kl
