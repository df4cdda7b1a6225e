/- Contracts of package integer's small functions. -/
import Derived.Test.YtgllflfifbacnaaGreatDoorKlShelf
import Derived.WalkKit
import Derived.WalkSpells
import Derived.WalkLawsBesides
import Derived.Lib.Hide
import Derived.Outline
import Derived.LoopTactic
import Derived.Lib.AppendIntMem
import Derived.Sort.Grow
import Derived.Lib.AtoiErrMem
import Derived.Test.YtgllflfifbacnaaGreatDoorKlNum
import Derived.Deep.QuietTactic
import Derived.BigQuiet
namespace Go.Proofs.YtgllflfifbacnaaGreatDoor.Kl
open Go Go.RowKit

theorem retB {a b : Bool} (h : a = b) : Ending.returned (.bool a) = .returned (.bool b) := by rw [h]
theorem retI {k : IntKind} {a b : Int} (h : a = b) : Ending.returned (.int k a) = .returned (.int k b) := by rw [h]
theorem retS {a b : ByteArray} (h : a = b) : Ending.returned (.string a) = .returned (.string b) := by rw [h]
theorem retIB {k : IntKind} {a b : Int} {x y : Bool} (h : a = b) (g : x = y) : Ending.returned (.tuple #[.int k a, .bool x]) = .returned (.tuple #[.int k b, .bool y]) := by rw [h, g]
theorem retSI {k : IntKind} {a b : ByteArray} {x y : Int} (h : a = b) (g : x = y) : Ending.returned (.tuple #[.string a, .int k x]) = .returned (.tuple #[.string b, .int k y]) := by rw [h, g]
theorem retBS {a b : ByteArray} {x y : Bool} (h : x = y) (g : a = b) : Ending.returned (.tuple #[.bool x, .string a]) = .returned (.tuple #[.bool y, .string b]) := by rw [h, g]

/-- What a named variable holds stays, while the world grows. -/
theorem var_stays {P : Program} {w w' : World} {n : String} {cs : Array Value} (h : w.var? P n = some cs) (hb : Below w.heap.size w w') : w'.var? P n = some cs := by
  unfold World.var? at *
  cases hg : P.globalNamed n with
  | none => simp [hg] at h
  | some g =>
    simp only [hg, Option.bind_some] at h ⊢
    have hlt : g < w.heap.size := by
      by_cases hn : g < w.heap.size
      · exact hn
      · rw [Array.getElem?_eq_none (by omega)] at h; simp at h
    rw [hb.block g hlt]; exact h

/-- What the library's own tables and sentinels hold. -/
structure Env (w : World) : Prop where
  tab : Lib.TabIs Tryz.prog w "internal/strconv.uint64pow10" .u64 Lib.pow10Tab
  esyn : ∃ tp p, w.var? Tryz.prog "strconv.ErrSyntax" = some #[.iface tp p]
  erng : ∃ tp p, w.var? Tryz.prog "strconv.ErrRange" = some #[.iface tp p]

theorem Env.below {w w' : World} (h : Env w) (hb : Below w.heap.size w w') : Env w' := by
  obtain ⟨a, ⟨t1, p1, b⟩, ⟨t2, p2, c⟩⟩ := h
  exact ⟨var_stays a hb, ⟨t1, p1, var_stays b hb⟩, ⟨t2, p2, var_stays c hb⟩⟩

theorem below_grow (w : World) (k : Nat) (os : Array Obj) : Below w.heap.size w (Sort.grow (w.drewN k) os) :=
  ⟨rfl, rfl, rfl, by show w.heap.size ≤ (w.heap ++ os).size; rw [Array.size_append]; omega, fun j hj => by
    show (w.heap ++ os)[j]? = w.heap[j]?
    rw [Array.getElem?_append_left hj]⟩

theorem trimPrefix_call (s p : ByteArray) (w : World) :
    Calls Tryz.prog 19 #[.string s, .string p] w fun e w' => e = .returned (.string ⟨(Lib.trimPrefix s.data.toList p.data.toList).toArray⟩) ∧ w = w' :=
  (Tryz.strings_TrimPrefix s p w).mono fun _ _ ⟨h, k⟩ => ⟨h, k.symm⟩

theorem below_drewN (w : World) (n : Nat) : Below w.heap.size w (w.drewN n) := ⟨rfl, rfl, rfl, Nat.le_refl _, fun _ _ => rfl⟩
/-- A text as a string. -/
def strOf (l : List UInt8) : ByteArray := ⟨l.toArray⟩
theorem strOf_data (l : List UInt8) : (strOf l).data.toList = l := rfl
theorem strOf_size (l : List UInt8) : (strOf l).size = l.length := by simp [strOf, ByteArray.size]
theorem eq_strOf {s : ByteArray} {l : List UInt8} (h : s.data.toList = l) : s = strOf l := by
  subst h; rfl
theorem size_len (s : ByteArray) : s.size = s.data.toList.length := by rw [Array.length_toList]; rfl
/-- What stands behind the sign, as a string. -/
def magB (s : ByteArray) : ByteArray := strOf (mag s.data.toList)
def itoaB (n : Int) : ByteArray := strOf (Lib.itoa n)
theorem magB_size (s : ByteArray) : (magB s).size = (mag s.data.toList).length := strOf_size _
theorem magB_le (s : ByteArray) : (magB s).size ≤ s.size := by rw [magB_size, mag_length, size_len]; omega

set_option maxHeartbeats 400000 in
theorem magnitude_any (s : ByteArray) (w : World) :
    Calls Tryz.prog 118 #[.string s] w fun e w' => e = .returned (.string (magB s)) ∧ w = w' := by
  go_enter Tryz.func118, Tryz.ntmps118
  go_wp2_with (go_at_call 19; refine (trimPrefix_call _ _ _).mono ?_; rintro e w' ⟨rfl, rfl⟩)
  go_ret
  exact ⟨retS (by rw [trimPrefix_minus]; rfl), rfl⟩

set_option maxHeartbeats 400000 in
theorem isDigits_any (s : ByteArray) (w : World) (hs : s.size ≤ maxLen) :
    Calls Tryz.prog 119 #[.string s] w fun e w' => e = .returned (.bool (digB s.data.toList)) ∧ w = w' := by
  unfold maxLen at hs
  go_enter Tryz.func119, Tryz.ntmps119
  go_wp2
  go_loop [6] (fun i => ∃ k : Nat, k ≤ s.size ∧ i = .int .i64 k ∧ (s.data.toList.take k).all isDig = true) (fun i => s.size - (intOf i).toNat)
  case atStart => exact ⟨0, Nat.zero_le _, rfl, rfl⟩
  case round =>
    obtain ⟨k, hk, rfl, hall⟩ := hrel
    have HA := Lib.hid hall
    clear hall
    by_cases hlt : k < s.size
    · go_wp2
      · go_ret
        have hd : 9 < ((s[k].toNat : Int) - 48) % 256 := by assumption
        exact ⟨retB (digB_false_at s k hlt (isDig_false_of hd)).symm, rfl⟩
      · have hd : ((s[k].toNat : Int) - 48) % 256 ≤ 9 := by assumption
        go_round
        case rel => exact ⟨k + 1, by omega, by go_num, all_step s k hlt HA.out (isDig_true_of hd)⟩
        case measure => simp [intOf]; omega
    · go_wp2
      go_ret
      have e : k = s.size := by omega
      subst e
      exact ⟨retB (digB_end s HA.out).symm, rfl⟩

/-- Facts on a byte, in the walk's spelling. -/
theorem byte_eq {c d : UInt8} {k : Int} (hk : k = (d.toNat : Int)) (h : c = d) : ((c.toNat : Int) == k) = true := by subst hk; subst h; simp
theorem byte_ne {c d : UInt8} {k : Int} (hk : k = (d.toNat : Int)) (h : c ≠ d) : ((c.toNat : Int) == k) = false := by
  subst hk
  rw [beq_eq_false_iff_ne]
  intro e
  exact h (UInt8.toNat.inj (by omega))
theorem neg_of (s : ByteArray) (h : 0 < s.size) : neg s.data.toList = (s[0] == 45) := by
  obtain ⟨⟨l⟩⟩ := s
  cases l with
  | nil => simp [ByteArray.size] at h
  | cons c r => rw [neg_cons]; rfl
theorem neg_empty (s : ByteArray) (h : s.size = 0) : neg s.data.toList = false := by
  rw [size_len, List.length_eq_zero_iff] at h; rw [h]; rfl
theorem magB_minus (s : ByteArray) (h : neg s.data.toList = true) : s.extract 1 s.size = magB s := by
  apply eq_strOf
  rw [Lib.extract_to_end]
  unfold mag; rw [h]; simp
theorem magB_plus (s : ByteArray) (h : neg s.data.toList = false) : s = magB s := by
  apply eq_strOf; rw [mag_pos h]

set_option maxHeartbeats 400000 in
theorem split_minus (s : ByteArray) (w : World) (h0 : 0 < s.size) (h1 : neg s.data.toList = true) :
    Calls Tryz.prog 71 #[.string s] w fun e w' => e = .returned (.tuple #[.bool true, .string (magB s)]) ∧ Below w.heap.size w w' := by
  have h2 : ((s[0].toNat : Int) == 45) = true := byte_eq (d := 45) rfl (by rw [neg_of s h0] at h1; simpa using h1)
  have h0' : (0 : Int) < (s.size : Int) := by omega
  have HH := Lib.hid h1
  clear h1
  go_enter Tryz.func71, Tryz.ntmps71
  go_wp2
  go_quiet (fail)
  go_wp2
  go_ret2
  exact ⟨retBS rfl (magB_minus s HH.out), below_drewN _ _⟩

set_option maxHeartbeats 400000 in
theorem split_plus (s : ByteArray) (w : World) (h1 : neg s.data.toList = false) :
    Calls Tryz.prog 71 #[.string s] w fun e w' => e = .returned (.tuple #[.bool false, .string (magB s)]) ∧ Below w.heap.size w w' := by
  by_cases h0 : 0 < s.size
  · have h2 : ((s[0].toNat : Int) == 45) = false := byte_ne (d := 45) rfl (by rw [neg_of s h0] at h1; simpa using h1)
    have h0' : (0 : Int) < (s.size : Int) := by omega
    have HH := Lib.hid h1
    clear h1
    go_enter Tryz.func71, Tryz.ntmps71
    go_wp2
    go_ret2
    exact ⟨retBS rfl (magB_plus s HH.out), Below.refl _ _⟩
  · have h0' : s.size = 0 := by omega
    have HH := Lib.hid h1
    clear h1
    go_enter Tryz.func71, Tryz.ntmps71
    go_wp2
    go_ret2
    exact ⟨retBS rfl (magB_plus s HH.out), Below.refl _ _⟩

theorem split_any (s : ByteArray) (w : World) (b : Bool) (h : neg s.data.toList = b) :
    Calls Tryz.prog 71 #[.string s] w fun e w' => e = .returned (.tuple #[.bool b, .string (magB s)]) ∧ Below w.heap.size w w' := by
  cases b
  · exact split_plus s w h
  · refine split_minus s w ?_ h
    rcases Nat.eq_zero_or_pos s.size with e | e
    · rw [neg_empty s e] at h; cases h
    · exact e
end Go.Proofs.YtgllflfifbacnaaGreatDoor.Kl
/- Contracts of package integer's functions over ints, and of the reference's on texts. -/
namespace Go.Proofs.YtgllflfifbacnaaGreatDoor.Kl
open Go Go.RowKit

theorem itoa_call (n : Int) (h0 : -9223372036854775808 ≤ n) (h1 : n ≤ 9223372036854775807) (w : World) (E : Env w) :
    Calls Tryz.prog 70 #[.int .i64 n] w fun e w' => e = .returned (.string (itoaB n)) ∧ Below w.heap.size w w' :=
  (Tryz.strconv_Itoa n h0 h1 w E.tab).mono fun _ _ ⟨h, k, os, e⟩ => ⟨h, by rw [e]; exact below_grow _ _ _⟩
set_option maxHeartbeats 400000 in
theorem of_any (n : Int) (h0 : -9223372036854775808 ≤ n) (h1 : n ≤ 9223372036854775807) (w : World) (E : Env w) :
    Calls Tryz.prog 77 #[.int .i64 n] w fun e w' => e = .returned (.string (itoaB n)) ∧ Below w.heap.size w w' := by
  go_enter Tryz.func77, Tryz.ntmps77
  go_wp2_with (go_at_call 70; refine (itoa_call _ h0 h1 _ E).mono ?_; rintro e w1 ⟨rfl, hb1⟩)
  go_ret
  exact ⟨rfl, hb1⟩
set_option maxHeartbeats 400000 in
theorem refOf_any (n : Int) (h0 : -9223372036854775808 ≤ n) (h1 : n ≤ 9223372036854775807) (w : World) (E : Env w) :
    Calls Tryz.prog 20 #[.int .i64 n] w fun e w' => e = .returned (.string (itoaB n)) ∧ Below w.heap.size w w' := by
  go_enter Tryz.func20, Tryz.ntmps20
  go_wp2_with (go_at_call 70; refine (itoa_call _ h0 h1 _ E).mono ?_; rintro e w1 ⟨rfl, hb1⟩)
  go_ret
  exact ⟨rfl, hb1⟩

/-- strconv.ParseInt(s, 10, 64) at a text that is read. -/
theorem parseInt_ok (s : ByteArray) (hs : s.size ≤ 1000000) (v : Int) (h : Lib.parseIntB 64 s.data.toList = .ok v) (w : World) :
    Calls Tryz.prog 127 #[.string s, .int .i64 10, .int .i64 64] w fun e w' => e = .returned (.tuple #[.int .i64 v, .nilIface]) ∧ Below w.heap.size w w' :=
  (Tryz.strconv_ParseInt_10_at64_ok s (by omega) v h w).mono fun _ _ ⟨a, b⟩ => ⟨a, by
    rcases b with rfl | ⟨t, rfl⟩
    · exact Below.refl _ _
    · exact Lib.bytesWorld_below _ _ _⟩
/-- At one that is not: some error. -/
theorem parseInt_err (s : ByteArray) (hs : s.size ≤ 1000000) (h : ∀ v, Lib.parseIntB 64 s.data.toList ≠ .ok v) (w : World) (E : Env w) :
    Calls Tryz.prog 127 #[.string s, .int .i64 10, .int .i64 64] w fun e w' => ∃ (v : Int) (N : Nat), e = .returned (.tuple #[.int .i64 v, .iface 200 (.pointer (some ⟨N, 0, none⟩))]) ∧ Below w.heap.size w w' := by
  cases hp : Lib.parseIntB 64 s.data.toList with
  | ok v => exact absurd hp (h v)
  | range =>
    obtain ⟨tp, p, hv⟩ := E.erng
    exact (Tryz.strconv_ParseInt_10_at64_range_var s (by omega) hp tp p w hv).mono fun _ _ ⟨N, a, _, _, b⟩ => ⟨_, N, a, b⟩
  | _ =>
    obtain ⟨tp, p, hv⟩ := E.esyn
    have c : Calls Tryz.prog 127 #[.string s, .int .i64 10, .int .i64 64] w fun e w' => ∃ N, e = .returned (.tuple #[.int .i64 (0), .iface 200 (.pointer (some ⟨N, 0, none⟩))]) ∧ w.heap.size ≤ N ∧ w'.heap[N]? = some (.cells #[.string ⟨#[80, 97, 114, 115, 101, 73, 110, 116]⟩, .string s, .iface tp p] 216 (0, 0)) ∧ Below w.heap.size w w' :=
      Any.strconv_ParseInt_10_at64_syntax_var Tryz.laysC174 s (by omega) hp tp p w hv
    exact c.mono fun _ _ ⟨N, a, _, _, b⟩ => ⟨_, N, a, b⟩

theorem smallV_long {s : ByteArray} (h : 20 < s.size) : smallV s.data.toList = none := by
  unfold smallV; rw [if_pos (by rw [← size_len]; exact h)]
theorem smallV_ok {s : ByteArray} (h : s.size ≤ 20) {v : Int} (hp : Lib.parseIntB 64 s.data.toList = .ok v) : smallV s.data.toList = some v := by
  unfold smallV; rw [if_neg (by rw [← size_len]; omega), hp]
theorem smallV_err {s : ByteArray} (h : s.size ≤ 20) (hp : ∀ v, Lib.parseIntB 64 s.data.toList ≠ .ok v) : smallV s.data.toList = none := by
  unfold smallV; rw [if_neg (by rw [← size_len]; omega)]
  cases hq : Lib.parseIntB 64 s.data.toList with
  | ok v => exact absurd hq (hp v)
  | range => rfl
  | _ => rfl

set_option maxHeartbeats 400000 in
theorem small_any (s : ByteArray) (w : World) (hs : s.size ≤ 1000000) (E : Env w) :
    Calls Tryz.prog 68 #[.string s] w fun e w' => e = .returned (.tuple #[.int .i64 (smI s.data.toList), .bool (smB s.data.toList)]) ∧ Below w.heap.size w w' := by
  by_cases hl : 20 < s.size
  · have h1 := smallV_long hl
    have H1 := Lib.hid h1
    clear h1
    go_enter Tryz.func68, Tryz.ntmps68
    go_wp2
    go_ret2
    exact ⟨retIB (by unfold smI; rw [H1.out]; rfl) (by unfold smB; rw [H1.out]; rfl), Below.refl _ _⟩
  · by_cases hp : ∃ v, Lib.parseIntB 64 s.data.toList = .ok v
    · obtain ⟨v, hv⟩ := hp
      have h1 := smallV_ok (by omega) hv
      have H1 := Lib.hid h1
      have HV := Lib.hid hv
      clear h1 hv
      go_enter Tryz.func68, Tryz.ntmps68
      go_wp2_with (go_at_call 127; refine (parseInt_ok _ hs v HV.out _).mono ?_; rintro e w1 ⟨rfl, hb1⟩)
      go_ret2
      exact ⟨retIB (by unfold smI; rw [H1.out]; rfl) (by unfold smB; rw [H1.out]; rfl), hb1⟩
    · have hp' : ∀ v, Lib.parseIntB 64 s.data.toList ≠ .ok v := fun v h => hp ⟨v, h⟩
      have h1 := smallV_err (by omega) hp'
      have H1 := Lib.hid h1
      have HP := Lib.hid hp'
      clear h1 hp' hp
      go_enter Tryz.func68, Tryz.ntmps68
      go_wp2_with (go_at_call 127; refine (parseInt_err _ hs HP.out _ E).mono ?_; rintro e w1 ⟨v, N, rfl, hb1⟩)
      go_ret2
      exact ⟨retIB (by unfold smI; rw [H1.out]; rfl) (by unfold smB; rw [H1.out]; rfl), hb1⟩

set_option maxHeartbeats 400000 in
theorem sign_zero (s : ByteArray) (w : World) (h : s.data.toList = [48]) :
    Calls Tryz.prog 73 #[.string s] w fun e w' => e = .returned (.int .i64 0) ∧ w = w' := by
  have e : s = strOf [48] := eq_strOf h
  subst e
  unfold strOf
  go_enter Tryz.func73, Tryz.ntmps73
  go_wp2
  go_ret
  exact ⟨rfl, rfl⟩
end Go.Proofs.YtgllflfifbacnaaGreatDoor.Kl
/- Contracts of package integer's functions over ints, second part. -/
namespace Go.Proofs.YtgllflfifbacnaaGreatDoor.Kl
open Go Go.RowKit

theorem retIIB {k : IntKind} {a b c d : Int} {x y : Bool} (h : a = b) (g : c = d) (i : x = y) : Ending.returned (.tuple #[.int k a, .int k c, .bool x]) = .returned (.tuple #[.int k b, .int k d, .bool y]) := by rw [h, g, i]
theorem retII {k : IntKind} {a b c d : Int} (h : a = b) (g : c = d) : Ending.returned (.tuple #[.int k a, .int k c]) = .returned (.tuple #[.int k b, .int k d]) := by rw [h, g]

/-- A call behind others: what was there at the first stays. -/
theorem chain {P : Program} {K : FuncId} {args : Array Value} {w w0 : World} {v : Value} (hb : Below w0.heap.size w0 w)
    (h : Calls P K args w fun e w' => e = .returned v ∧ Below w.heap.size w w') : Calls P K args w fun e w' => e = .returned v ∧ Below w0.heap.size w0 w' :=
  h.mono fun _ _ ⟨a, b⟩ => ⟨a, hb.trans (b.mono hb.size)⟩
theorem Below.drews {B : Nat} {a w : World} (h : Below B a w) (n : Nat) : Below B a (w.drewN n) := ⟨h.os, h.tape, h.output, h.size, h.block⟩

set_option maxHeartbeats 400000 in
/-- Both are ints, of at most 18 bytes each. -/
theorem ints_short (s t : ByteArray) (w : World) (hs : s.size ≤ 18) (ht : t.size ≤ 18) (x y : Int) (hx : smallV s.data.toList = some x) (hy : smallV t.data.toList = some y) (E : Env w) :
    Calls Tryz.prog 122 #[.string s, .string t] w fun e w' => e = .returned (.tuple #[.int .i64 x, .int .i64 y, .bool true]) ∧ Below w.heap.size w w' := by
  have HX : Hid (smI s.data.toList = x) := by show smI _ = _; unfold smI; rw [hx]; rfl
  have HY : Hid (smI t.data.toList = y) := by show smI _ = _; unfold smI; rw [hy]; rfl
  have bx : smB s.data.toList = true := by unfold smB; rw [hx]; rfl
  have by' : smB t.data.toList = true := by unfold smB; rw [hy]; rfl
  clear hx hy
  have hb := Below.refl w.heap.size w
  go_enter Tryz.func122, Tryz.ntmps122
  go_wp2_with (go_at_call 68; refine (chain hb (small_any _ _ (by omega) (E.below hb))).mono ?_; clear hb; rintro e w1 ⟨rfl, hb⟩)
  go_ret3
  exact ⟨retIIB HX.out HY.out rfl, hb⟩

theorem tdiv_facts (x y : Int) (hx0 : -1000000000000000000 < x) (hx1 : x < 1000000000000000000) (hy : y ≠ 0) :
    -1000000000000000000 < x.tdiv y ∧ x.tdiv y < 1000000000000000000 ∧ (0 < y → -y < x.tmod y ∧ x.tmod y < y) ∧ (y < 0 → y < x.tmod y ∧ x.tmod y < -y) := by
  have h1 := Int.natAbs_tmod x y
  have h2 : (x.tdiv y).natAbs = x.natAbs / y.natAbs := Int.natAbs_tdiv x y
  have h3 : x.natAbs / y.natAbs ≤ x.natAbs := Nat.div_le_self _ _
  have h4 : x.natAbs % y.natAbs < y.natAbs := Nat.mod_lt _ (by omega)
  omega
theorem euclid_minus {x y : Int} (h : 0 < y) (hr : x.tmod y < 0) (hb : -y < x.tmod y) : x.tdiv y - 1 = x / y ∧ x.tmod y + y = x % y := by
  have e := Int.tmod_add_mul_tdiv x y
  have := (Int.ediv_emod_unique h (a := x) (r := x.tmod y + y) (q := x.tdiv y - 1)).2 ⟨by rw [Int.mul_sub]; omega, by omega, by omega⟩
  exact ⟨this.1.symm, this.2.symm⟩
theorem euclid_plus {x y : Int} (h : y < 0) (hr : x.tmod y < 0) (hb : y < x.tmod y) : x.tdiv y + 1 = x / y ∧ x.tmod y - y = x % y := by
  have e := Int.tmod_add_mul_tdiv x y
  have := (Int.ediv_emod_unique' h (a := x) (r := x.tmod y - y) (q := x.tdiv y + 1)).2 ⟨by rw [Int.mul_add]; omega, by omega, by omega⟩
  exact ⟨this.1.symm, this.2.symm⟩
theorem euclid_zero {x y : Int} (hy : y ≠ 0) (hr : 0 ≤ x.tmod y) (h1 : 0 < y → x.tmod y < y) (h2 : y < 0 → x.tmod y < -y) : x.tdiv y = x / y ∧ x.tmod y = x % y := by
  have e := Int.tmod_add_mul_tdiv x y
  rcases Int.lt_or_gt_of_ne hy with h | h
  · have := (Int.ediv_emod_unique' h (a := x) (r := x.tmod y) (q := x.tdiv y)).2 ⟨by omega, by omega, by omega⟩
    exact ⟨this.1.symm, this.2.symm⟩
  · have := (Int.ediv_emod_unique h (a := x) (r := x.tmod y) (q := x.tdiv y)).2 ⟨by omega, by omega, by omega⟩
    exact ⟨this.1.symm, this.2.symm⟩

set_option maxHeartbeats 400000 in
/-- Euclid's division. -/
theorem divideInts_any (x y : Int) (w : World) (hx0 : -1000000000000000000 < x) (hx1 : x < 1000000000000000000) (hy0 : -1000000000000000000 < y) (hy1 : y < 1000000000000000000) (hy : y ≠ 0) :
    Calls Tryz.prog 176 #[.int .i64 x, .int .i64 y] w fun e w' => e = .returned (.tuple #[.int .i64 (x / y), .int .i64 (x % y)]) ∧ Below w.heap.size w w' := by
  have hy' : (y == 0) = false := by simpa using hy
  obtain ⟨q0, q1, r0, r1⟩ := tdiv_facts x y hx0 hx1 hy
  have q2 : wrap64 (x.tdiv y) = x.tdiv y := IntWalk.wrap64_in _ ⟨by omega, by omega⟩
  have r2 : -1000000000000000000 < x.tmod y := by omega
  have r3 : x.tmod y < 1000000000000000000 := by omega
  have HR0 := Lib.hid r0
  have HR1 := Lib.hid r1
  clear r0 r1
  go_enter Tryz.func176, Tryz.ntmps176
  go_wp2
  go_quiet (fail)
  go_wp2
  · have e := euclid_minus (x := x) (y := y) (by assumption) (by assumption) (HR0.out (by assumption)).1
    go_ret2
    exact ⟨retII e.1 e.2, below_drewN _ _⟩
  · have hz : y < 0 := by omega
    have e := euclid_plus (x := x) (y := y) hz (by assumption) (HR1.out hz).1
    go_ret2
    exact ⟨retII e.1 e.2, below_drewN _ _⟩
  · have e := euclid_zero (x := x) (y := y) hy (by assumption) (fun h => (HR0.out h).2) (fun h => (HR1.out h).2)
    go_ret2
    exact ⟨retII e.1 e.2, below_drewN _ _⟩

set_option maxHeartbeats 400000 in
theorem gcdInts_any (x y : Nat) (w : World) (hx1 : x < 1000000000000000000) (hy1 : y < 1000000000000000000) :
    Calls Tryz.prog 123 #[.int .i64 x, .int .i64 y] w fun e w' => e = .returned (.int .i64 (Nat.gcd x y)) ∧ Below w.heap.size w w' := by
  go_enter Tryz.func123, Tryz.ntmps123
  go_wp2
  go_loopw [0, 1] (fun a b wr => ∃ m n : Nat, a = .int .i64 m ∧ b = .int .i64 n ∧ m < 1000000000000000000 ∧ n < 1000000000000000000 ∧ Nat.gcd m n = Nat.gcd x y ∧ Below w.heap.size w wr) (fun _ b _ => (intOf b).toNat)
  case atStart => exact ⟨x, y, rfl, rfl, hx1, hy1, rfl, Below.refl _ _⟩
  case round =>
    obtain ⟨m, n, rfl, rfl, hm, hn, hg, hb⟩ := hrel
    have HG := Lib.hid hg
    clear hg
    by_cases h0 : n = 0
    · subst h0
      go_wp2
      go_ret
      exact ⟨retI (by rw [← HG.out]; simp), hb⟩
    · have hne : ((n : Int) == 0) = false := by simpa using h0
      have hpos : (0 : Int) < (n : Int) := by omega
      go_wp2
      go_quiet (fail)
      go_wp2
      go_roundw
      case rel => exact ⟨n, m % n, rfl, by go_num, hn, by have := Nat.mod_lt m (Nat.pos_of_ne_zero h0); omega, by rw [← HG.out, Nat.gcd_comm m n, Nat.gcd_rec n m, Nat.gcd_comm]; done, Below.drews hb _⟩
      case measure => simp [intOf]; have := Int.emod_lt_of_pos (m : Int) hpos; omega
end Go.Proofs.YtgllflfifbacnaaGreatDoor.Kl
