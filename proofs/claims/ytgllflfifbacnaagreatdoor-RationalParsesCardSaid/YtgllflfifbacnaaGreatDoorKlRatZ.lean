/- Contract: package rational's Parse, whatever the text. -/
import Derived.Test.YtgllflfifbacnaaGreatDoorKlRatT
namespace Go.Proofs.YtgllflfifbacnaaGreatDoor.Kl
open Go Go.RowKit

theorem occ_headc (c : UInt8) (s : List UInt8) (i : Nat) : Lib.occAt s [c] i = (s[i]? == some c) := by
  unfold Lib.occAt
  rw [← List.head?_drop]
  cases s.drop i with
  | nil => rfl
  | cons b r =>
    by_cases h : b = c
    · subst h; simp
    · have h1 : (c == b) = false := by rw [beq_eq_false_iff_ne]; exact fun e => h e.symm
      have h2 : (b == c) = false := by rw [beq_eq_false_iff_ne]; exact h
      show ((c == b) && List.isPrefixOf [] r) = (b == c)
      rw [h1, h2]; rfl
theorem cutc_hit (c : UInt8) {a b : List UInt8} (h : c ∉ a) : Lib.cut (a ++ c :: b) [c] = (a, b, true) := by
  have e : Lib.index (a ++ c :: b) [c] = a.length := Lib.index_first (by simp) (by rw [occ_headc]; simp) (fun j hj => by
    rw [occ_headc, List.getElem?_append_left hj, List.getElem?_eq_getElem hj]
    have : a[j] ≠ c := fun e => h (e ▸ List.getElem_mem hj)
    simp [this])
  unfold Lib.cut
  rw [e, if_pos (by omega)]
  simp
theorem cutc_miss (c : UInt8) {l : List UInt8} (h : c ∉ l) : Lib.cut l [c] = (l, [], false) := by
  have e : Lib.index l [c] = -1 := by
    rcases Lib.index_spec l [c] with h1 | ⟨i, _, hi, ho, _⟩
    · exact h1.1
    · rw [occ_headc, beq_iff_eq] at ho
      exact absurd (List.mem_of_getElem? ho) h
  unfold Lib.cut
  rw [e, if_neg (by decide)]
/-- Where the first point or slash stands. -/
theorem sep_split (t : List UInt8) : ((46 : UInt8) ∉ t ∧ (47 : UInt8) ∉ t) ∨ ∃ a c b, t = a ++ c :: b ∧ (c = 46 ∨ c = 47) ∧ (46 : UInt8) ∉ a ∧ (47 : UInt8) ∉ a := by
  induction t with
  | nil => exact .inl ⟨by simp, by simp⟩
  | cons x t ih =>
    by_cases h1 : x = 46
    · exact .inr ⟨[], x, t, rfl, .inl h1, by simp, by simp⟩
    · by_cases h2 : x = 47
      · exact .inr ⟨[], x, t, rfl, .inr h2, by simp, by simp⟩
      · rcases ih with ⟨i1, i2⟩ | ⟨a, c, b, e, hc, n1, n2⟩
        · exact .inl ⟨List.not_mem_cons_of_ne_of_not_mem (Ne.symm h1) i1, List.not_mem_cons_of_ne_of_not_mem (Ne.symm h2) i2⟩
        · exact .inr ⟨x :: a, c, b, by rw [e]; rfl, hc, List.not_mem_cons_of_ne_of_not_mem (Ne.symm h1) n1, List.not_mem_cons_of_ne_of_not_mem (Ne.symm h2) n2⟩
/-- Numerator's and denominator's digits of a text without its sign. -/
def fracL (t : List UInt8) : List UInt8 × List UInt8 := if (Lib.cut t [47]).2.2 = true then ((Lib.cut t [47]).1, (Lib.cut t [47]).2.1) else decL t
theorem frac_none {t : List UInt8} (h1 : (46 : UInt8) ∉ t) (h2 : (47 : UInt8) ∉ t) : fracL t = (t, [49]) := by
  unfold fracL decL
  rw [cutc_miss 47 h2, cutc_miss 46 h1]
  simp
theorem frac_slash {a b : List UInt8} (h : (47 : UInt8) ∉ a) : fracL (a ++ 47 :: b) = (a, b) := by
  unfold fracL
  rw [cutc_hit 47 h]; rfl
theorem frac_dot {a b : List UInt8} (h : (46 : UInt8) ∉ a) (h2 : (47 : UInt8) ∉ a) (h3 : (47 : UInt8) ∉ b) : fracL (a ++ 46 :: b) = if a = [] ∨ b = [] then ([], []) else (a ++ b, 49 :: List.replicate b.length 48) := by
  unfold fracL decL
  rw [cutc_miss 47 (by simp [h2, h3]), cutc_hit 46 h]
  simp
theorem frac_both {a b : List UInt8} (h2 : (47 : UInt8) ∉ a) (h3 : (47 : UInt8) ∈ b) : ∃ a' b', fracL (a ++ 46 :: b) = (a ++ 46 :: a', b') := by
  obtain ⟨a', b', rfl, hn⟩ := List.eq_append_cons_of_mem h3
  refine ⟨a', b', ?_⟩
  unfold fracL
  rw [show a ++ 46 :: (a' ++ 47 :: b') = (a ++ 46 :: a') ++ 47 :: b' by simp, cutc_hit 47 (by simp [h2, hn])]
  rfl
theorem frac_len (t : List UInt8) : (fracL t).1.length ≤ t.length ∧ (fracL t).2.length ≤ max 1 t.length := by
  rcases sep_split t with ⟨h1, h2⟩ | ⟨a, c, b, rfl, rfl | rfl, h1, h2⟩
  · rw [frac_none h1 h2]; exact ⟨Nat.le_refl _, by simp; omega⟩
  · by_cases h3 : (47 : UInt8) ∈ b
    · obtain ⟨a', b', rfl, hn⟩ := List.eq_append_cons_of_mem h3
      have e : fracL (a ++ 46 :: (a' ++ 47 :: b')) = (a ++ 46 :: a', b') := by
        unfold fracL
        rw [show a ++ 46 :: (a' ++ 47 :: b') = (a ++ 46 :: a') ++ 47 :: b' by simp, cutc_hit 47 (by simp [h2, hn])]
        rfl
      rw [e]; simp; omega
    · rw [frac_dot h1 h2 h3]
      split
      · simp
      · simp; omega
  · rw [frac_slash h2]; simp; omega
/-- The integer of digits behind a sign. -/
def numQ (s n : List UInt8) : Int := if neg s = true then -(val n : Int) else val n
/-- What Parse makes of a text. -/
def parseQ (s : List UInt8) : List UInt8 × Int :=
  if s = [] then ([], 13) else
  if (digB (fracL (unsign s)).1 && digB (fracL (unsign s)).2) = false then ([], 15) else
  if 200 < s.length then ([], 16) else
  if val (fracL (unsign s)).2 = 0 then ([], 17) else (ratS (Rat.divInt (numQ s (fracL (unsign s)).1) (val (fracL (unsign s)).2)), 0)
theorem pq_syn {s n d : List UInt8} (h : s ≠ []) (e : fracL (unsign s) = (n, d)) (h1 : (digB n && digB d) = false) : parseQ s = ([], 15) := by unfold parseQ; rw [if_neg h, e, if_pos h1]
theorem pq_long {s n d : List UInt8} (h : s ≠ []) (e : fracL (unsign s) = (n, d)) (h1 : digB n = true) (h2 : digB d = true) (h3 : 200 < s.length) : parseQ s = ([], 16) := by unfold parseQ; rw [if_neg h, e, if_neg (by simp [h1, h2]), if_pos h3]
theorem pq_zero {s n d : List UInt8} (h : s ≠ []) (e : fracL (unsign s) = (n, d)) (h1 : digB n = true) (h2 : digB d = true) (h3 : ¬ 200 < s.length) (h4 : val d = 0) : parseQ s = ([], 17) := by unfold parseQ; rw [if_neg h, e, if_neg (by simp [h1, h2]), if_neg h3, if_pos h4]
theorem pq_ok {s n d : List UInt8} (h : s ≠ []) (e : fracL (unsign s) = (n, d)) (h1 : digB n = true) (h2 : digB d = true) (h3 : ¬ 200 < s.length) (h4 : val d ≠ 0) : parseQ s = (ratS (Rat.divInt (numQ s n) (val d)), 0) := by unfold parseQ; rw [if_neg h, e, if_neg (by simp [h1, h2]), if_neg h3, if_neg h4]
/-! ### Integers of digits -/
theorem val_strip : ∀ (l : List UInt8), val (strip l) = val l
  | [] => rfl
  | c :: r => by
    by_cases h : c = 48
    · subst h
      have e : strip (48 :: r) = strip r := by unfold strip; rw [List.dropWhile_cons_of_pos (by decide)]
      rw [e, val_strip r, val_cons]; simp
    · have e : strip (c :: r) = c :: r := by unfold strip; rw [List.dropWhile_cons_of_neg (by simpa using h)]
      rw [e]
theorem strip_dec {n : List UInt8} (h : digB n = true) : (if strip n = [] then [48] else strip n) = Lib.decDigits (val n) := by
  obtain ⟨h1, h2⟩ := digB_iff.1 h
  by_cases hz : strip n = []
  · rw [if_pos hz, ← val_strip n, hz]; decide +kernel
  · rw [if_neg hz, ← val_strip n]
    refine dec_of_canon ?_ hz (fun hh => ?_)
    · rw [List.all_eq_true] at h1 ⊢
      intro x hx
      exact h1 x ((List.dropWhile_sublist _).mem hx)
    · have h3 := List.head?_dropWhile_not (· == 48) n
      unfold strip at hh
      rw [hh] at h3
      simp at h3
theorem strip_head {n : List UInt8} (h : digB n = true) (hz : strip n ≠ []) : 0 < val n := by
  rcases Nat.eq_zero_or_pos (val n) with h0 | h0
  · have e := strip_dec h
    rw [if_neg hz, h0, show Lib.decDigits 0 = [48] by decide +kernel] at e
    have h3 := List.head?_dropWhile_not (· == 48) n
    unfold strip at e
    rw [e] at h3
    simp at h3
  · exact h0
theorem dig_head {n : List UInt8} (h : digB n = true) : n ≠ [] ∧ n.head? ≠ some 43 ∧ n.head? ≠ some 45 := by
  obtain ⟨h1, h2⟩ := digB_iff.1 h
  refine ⟨h2, ?_, ?_⟩ <;>
  · intro e
    cases n with
    | nil => exact h2 rfl
    | cons c r =>
      rw [List.all_cons, Bool.and_eq_true] at h1
      rw [List.head?_cons] at e
      injection e with e
      rw [e] at h1
      exact absurd h1.1 (by decide)
theorem unsign_dig {n : List UInt8} (h : digB n = true) (sg : List UInt8) (hs : sg = [] ∨ sg = [43] ∨ sg = [45]) : unsign (sg ++ n) = n ∧ sg ++ n ≠ [] ∧ neg (sg ++ n) = decide (sg = [45]) := by
  obtain ⟨h1, h2, h3⟩ := dig_head h
  rcases hs with rfl | rfl | rfl
  · refine ⟨?_, by simpa using h1, ?_⟩
    · unfold unsign; rw [List.nil_append, if_neg (by simp [h2, h3])]
    · unfold neg; rw [List.nil_append]; simp [h3]
  · exact ⟨rfl, by simp, rfl⟩
  · exact ⟨rfl, by simp, rfl⟩
theorem parseS_dig {n : List UInt8} (h : digB n = true) (hl : n.length ≤ 200) (sg : List UInt8) (hs : sg = [] ∨ sg = [43] ∨ sg = [45]) :
    parseS (sg ++ n) = (Lib.itoa (if sg = [45] then -(val n : Int) else val n), 0) := by
  obtain ⟨u1, u2, u3⟩ := unsign_dig h sg hs
  have h1 : digB (unsign (sg ++ n)) = true := by rw [u1]; exact h
  have hsl : ¬ 200 < (strip (unsign (sg ++ n))).length := by rw [u1]; have := strip_le n; omega
  have hd := strip_dec h
  by_cases hz : strip n = []
  · rw [pe3 u2 h1 (by rw [u1]; exact hz)]
    have hv : val n = 0 := by rw [← val_strip n, hz]; rfl
    rw [hv]; split <;> exact Prod.ext (by decide +kernel) rfl
  · rw [if_neg hz] at hd
    have hp := strip_head h hz
    by_cases hm : sg = [45]
    · rw [pe4 u2 h1 hsl (by rw [u1]; exact hz) (by rw [u3]; exact decide_eq_true hm), u1, hd, if_pos hm]
      unfold Lib.itoa
      rw [if_pos (by omega), Int.natAbs_neg, Int.natAbs_natCast]
    · rw [pe5 u2 h1 hsl (by rw [u1]; exact hz) (by rw [u3]; exact decide_eq_false hm), u1, hd, if_neg hm]
      unfold Lib.itoa
      rw [if_neg (by omega), Int.toNat_natCast]
theorem iparse_dig {n : List UInt8} (h : digB n = true) (hl : n.length ≤ 200) (sg : ByteArray) (hs : sg.data.toList = [] ∨ sg.data.toList = [43] ∨ sg.data.toList = [45]) (w : World) :
    Calls Tryz.prog 90 #[.string (sg ++ strOf n)] w fun e w' => e = .returned (.tuple #[.string (itoaB (if sg.data.toList = [45] then -(val n : Int) else val n)), .int .i64 0]) ∧ Below w.heap.size w w' := by
  have e : (sg ++ strOf n).data.toList = sg.data.toList ++ n := by rw [cat_data]; rfl
  have hsz : (sg ++ strOf n).size ≤ 1000000 := by
    rw [size_len, e, List.length_append]
    rcases hs with h | h | h <;> rw [h] <;> simp <;> omega
  refine (parse_any (sg ++ strOf n) w hsz).mono fun e' w' h' => ⟨h'.1.trans ?_, by rw [← h'.2]; exact Below.refl _ _⟩
  unfold ParseEnd
  rw [e, parseS_dig h hl _ hs]; rfl
/-! ### The sign -/
theorem ext01 (s : ByteArray) (h0 : 0 < s.size) : (s.extract 0 1).data.toList = [s[0]] := by
  rw [← Lib.toList_data, Lib.extract_toList]
  obtain ⟨⟨l⟩⟩ := s
  cases l with
  | nil => simp [ByteArray.size] at h0
  | cons c r => rfl
/-- How Parse takes a sign away. -/
def Sg (s T sg : ByteArray) (h0 : 0 < s.size) : Prop :=
  (s = T ∧ sg = ⟨#[]⟩ ∧ ((s[0].toNat : Int) == 43) = false ∧ ((s[0].toNat : Int) == 45) = false) ∨ (s.extract 1 s.size = T ∧ s.extract 0 1 = sg ∧ ((s[0].toNat : Int) == 43) = true) ∨ (s.extract 1 s.size = T ∧ s.extract 0 1 = sg ∧ ((s[0].toNat : Int) == 43) = false ∧ ((s[0].toNat : Int) == 45) = true)
theorem sg_of (s : ByteArray) (h0 : 0 < s.size) : ∃ T sg, Sg s T sg h0 ∧ T.data.toList = unsign s.data.toList ∧ T.size ≤ s.size ∧ (sg.data.toList = [] ∨ sg.data.toList = [43] ∨ sg.data.toList = [45]) ∧ (neg s.data.toList = decide (sg.data.toList = [45])) := by
  have key : ∀ c : UInt8, ((s[0].toNat : Int) == (c.toNat : Int)) = true → s[0] = c := fun c h => UInt8.toNat.inj (by have := beq_iff_eq.1 h; omega)
  rcases starts s h0 with ⟨e, hp, hn⟩ | ⟨e, hp, hm, hn⟩ | ⟨e, hp, hm, hn⟩
  · have e1 := ext01 s h0
    rw [key 43 hp] at e1
    refine ⟨_, _, .inr (.inl ⟨rfl, rfl, hp⟩), by rw [e]; rfl, by rw [e, unsB_size, size_len]; exact unsign_le _, .inr (.inl e1), ?_⟩
    rw [hn, e1]; rfl
  · have e1 := ext01 s h0
    rw [key 45 hm] at e1
    refine ⟨_, _, .inr (.inr ⟨rfl, rfl, hp, hm⟩), by rw [e]; rfl, by rw [e, unsB_size, size_len]; exact unsign_le _, .inr (.inr e1), ?_⟩
    rw [hn, e1]; rfl
  · refine ⟨_, _, .inl ⟨rfl, rfl, hp, hm⟩, e, Nat.le_refl _, .inl rfl, ?_⟩
    rw [hn]; rfl
theorem frac_calls (T : ByteArray) (hT : T.size ≤ 300000) {n d : List UInt8} (h : fracL T.data.toList = (n, d)) :
    (∀ w, EnvR w → Calls Tryz.prog 64 #[.string T, .string ⟨#[47]⟩] w fun e w' => e = .returned (.tuple #[.string (strOf n), .string (strOf d), .bool true]) ∧ Below w.heap.size w w') ∨
    ∃ u v, (∀ w, EnvR w → Calls Tryz.prog 64 #[.string T, .string ⟨#[47]⟩] w fun e w' => e = .returned (.tuple #[.string u, .string v, .bool false]) ∧ Below w.heap.size w w') ∧
      (∀ w, EnvR w → Calls Tryz.prog 88 #[.string T] w fun e w' => e = .returned (.tuple #[.string (strOf n), .string (strOf d)]) ∧ Below w.heap.size w w') := by
  obtain ⟨a, b, f, hc⟩ : ∃ a b f, Lib.cut T.data.toList [47] = (a, b, f) := ⟨_, _, _, rfl⟩
  unfold fracL at h
  rw [hc] at h
  cases f with
  | true =>
    rw [if_pos rfl] at h
    obtain ⟨rfl, rfl⟩ := Prod.mk.inj h
    exact .inl fun w R => cut_call T ⟨#[47]⟩ (strOf a) (strOf b) true hc (by omega) w R
  | false =>
    rw [if_neg Bool.false_ne_true] at h
    refine .inr ⟨strOf a, strOf b, fun w R => cut_call T ⟨#[47]⟩ (strOf a) (strOf b) false hc (by omega) w R, fun w R => ?_⟩
    have := decimal_any T (by omega) w R
    rwa [h] at this
theorem parse_n (s T sg : ByteArray) (n d : List UInt8) (h0 : 0 < s.size) (S : Sg s T sg h0) (hs : s.size ≤ 1000000) (hn : n.length ≤ 1000000) (F : (∀ w, EnvR w → Calls Tryz.prog 64 #[.string T, .string ⟨#[47]⟩] w fun e w' => e = .returned (.tuple #[.string (strOf n), .string (strOf d), .bool true]) ∧ Below w.heap.size w w') ∨ ∃ u v, (∀ w, EnvR w → Calls Tryz.prog 64 #[.string T, .string ⟨#[47]⟩] w fun e w' => e = .returned (.tuple #[.string u, .string v, .bool false]) ∧ Below w.heap.size w w') ∧ (∀ w, EnvR w → Calls Tryz.prog 88 #[.string T] w fun e w' => e = .returned (.tuple #[.string (strOf n), .string (strOf d)]) ∧ Below w.heap.size w w')) (D1 : (∀ w, EnvR w → Calls Tryz.prog 89 #[.string (strOf n)] w fun e w' => e = .returned (.bool false) ∧ Below w.heap.size w w')) (w : World) (R : EnvR w) :
    Calls Tryz.prog 28 #[.string s] w fun e w' => e = .returned (.tuple #[.string ⟨#[]⟩, .int .i64 15]) ∧ Below w.heap.size w w' := by
  have hn' : (strOf n).size ≤ 1000000 := by rw [strOf_size]; exact hn
  rcases S with ⟨rfl, rfl, hp, hm⟩ | ⟨rfl, rfl, hp⟩ | ⟨rfl, rfl, hp, hm⟩
  · rcases F with F | ⟨u, v, F, G⟩
    · exact parse_nfn s _ _ h0 hs hn' hp hm  F D1 w R
    · exact parse_ndn s _ _ _ _ h0 hs hn' hp hm  F G D1 w R
  · rcases F with F | ⟨u, v, F, G⟩
    · exact parse_pfn s _ _ h0 hs hn' hp  F D1 w R
    · exact parse_pdn s _ _ _ _ h0 hs hn' hp  F G D1 w R
  · rcases F with F | ⟨u, v, F, G⟩
    · exact parse_mfn s _ _ h0 hs hn' hp hm  F D1 w R
    · exact parse_mdn s _ _ _ _ h0 hs hn' hp hm  F G D1 w R
theorem parse_d (s T sg : ByteArray) (n d : List UInt8) (h0 : 0 < s.size) (S : Sg s T sg h0) (hs : s.size ≤ 1000000) (hn : n.length ≤ 1000000) (F : (∀ w, EnvR w → Calls Tryz.prog 64 #[.string T, .string ⟨#[47]⟩] w fun e w' => e = .returned (.tuple #[.string (strOf n), .string (strOf d), .bool true]) ∧ Below w.heap.size w w') ∨ ∃ u v, (∀ w, EnvR w → Calls Tryz.prog 64 #[.string T, .string ⟨#[47]⟩] w fun e w' => e = .returned (.tuple #[.string u, .string v, .bool false]) ∧ Below w.heap.size w w') ∧ (∀ w, EnvR w → Calls Tryz.prog 88 #[.string T] w fun e w' => e = .returned (.tuple #[.string (strOf n), .string (strOf d)]) ∧ Below w.heap.size w w')) (D1 : (∀ w, EnvR w → Calls Tryz.prog 89 #[.string (strOf n)] w fun e w' => e = .returned (.bool true) ∧ Below w.heap.size w w')) (D2 : (∀ w, EnvR w → Calls Tryz.prog 89 #[.string (strOf d)] w fun e w' => e = .returned (.bool false) ∧ Below w.heap.size w w')) (w : World) (R : EnvR w) :
    Calls Tryz.prog 28 #[.string s] w fun e w' => e = .returned (.tuple #[.string ⟨#[]⟩, .int .i64 15]) ∧ Below w.heap.size w w' := by
  have hn' : (strOf n).size ≤ 1000000 := by rw [strOf_size]; exact hn
  rcases S with ⟨rfl, rfl, hp, hm⟩ | ⟨rfl, rfl, hp⟩ | ⟨rfl, rfl, hp, hm⟩
  · rcases F with F | ⟨u, v, F, G⟩
    · exact parse_nfd s _ _ h0 hs hn' hp hm  F D1 D2 w R
    · exact parse_ndd s _ _ _ _ h0 hs hn' hp hm  F G D1 D2 w R
  · rcases F with F | ⟨u, v, F, G⟩
    · exact parse_pfd s _ _ h0 hs hn' hp  F D1 D2 w R
    · exact parse_pdd s _ _ _ _ h0 hs hn' hp  F G D1 D2 w R
  · rcases F with F | ⟨u, v, F, G⟩
    · exact parse_mfd s _ _ h0 hs hn' hp hm  F D1 D2 w R
    · exact parse_mdd s _ _ _ _ h0 hs hn' hp hm  F G D1 D2 w R
theorem parse_l (s T sg : ByteArray) (n d : List UInt8) (h0 : 0 < s.size) (S : Sg s T sg h0) (hs : s.size ≤ 1000000) (hn : n.length ≤ 1000000) (F : (∀ w, EnvR w → Calls Tryz.prog 64 #[.string T, .string ⟨#[47]⟩] w fun e w' => e = .returned (.tuple #[.string (strOf n), .string (strOf d), .bool true]) ∧ Below w.heap.size w w') ∨ ∃ u v, (∀ w, EnvR w → Calls Tryz.prog 64 #[.string T, .string ⟨#[47]⟩] w fun e w' => e = .returned (.tuple #[.string u, .string v, .bool false]) ∧ Below w.heap.size w w') ∧ (∀ w, EnvR w → Calls Tryz.prog 88 #[.string T] w fun e w' => e = .returned (.tuple #[.string (strOf n), .string (strOf d)]) ∧ Below w.heap.size w w')) (D1 : (∀ w, EnvR w → Calls Tryz.prog 89 #[.string (strOf n)] w fun e w' => e = .returned (.bool true) ∧ Below w.heap.size w w')) (D2 : (∀ w, EnvR w → Calls Tryz.prog 89 #[.string (strOf d)] w fun e w' => e = .returned (.bool true) ∧ Below w.heap.size w w')) (hl : 200 < (s.size : Int)) (w : World) (R : EnvR w) :
    Calls Tryz.prog 28 #[.string s] w fun e w' => e = .returned (.tuple #[.string ⟨#[]⟩, .int .i64 16]) ∧ Below w.heap.size w w' := by
  have hn' : (strOf n).size ≤ 1000000 := by rw [strOf_size]; exact hn
  rcases S with ⟨rfl, rfl, hp, hm⟩ | ⟨rfl, rfl, hp⟩ | ⟨rfl, rfl, hp, hm⟩
  · rcases F with F | ⟨u, v, F, G⟩
    · exact parse_nfl s _ _ h0 hs hn' hp hm hl F D1 D2 w R
    · exact parse_ndl s _ _ _ _ h0 hs hn' hp hm hl F G D1 D2 w R
  · rcases F with F | ⟨u, v, F, G⟩
    · exact parse_pfl s _ _ h0 hs hn' hp hl F D1 D2 w R
    · exact parse_pdl s _ _ _ _ h0 hs hn' hp hl F G D1 D2 w R
  · rcases F with F | ⟨u, v, F, G⟩
    · exact parse_mfl s _ _ h0 hs hn' hp hm hl F D1 D2 w R
    · exact parse_mdl s _ _ _ _ h0 hs hn' hp hm hl F G D1 D2 w R
theorem parse_y (s T sg : ByteArray) (n d : List UInt8) (h0 : 0 < s.size) (S : Sg s T sg h0) (hs : s.size ≤ 1000000) (hn : n.length ≤ 1000000) (F : (∀ w, EnvR w → Calls Tryz.prog 64 #[.string T, .string ⟨#[47]⟩] w fun e w' => e = .returned (.tuple #[.string (strOf n), .string (strOf d), .bool true]) ∧ Below w.heap.size w w') ∨ ∃ u v, (∀ w, EnvR w → Calls Tryz.prog 64 #[.string T, .string ⟨#[47]⟩] w fun e w' => e = .returned (.tuple #[.string u, .string v, .bool false]) ∧ Below w.heap.size w w') ∧ (∀ w, EnvR w → Calls Tryz.prog 88 #[.string T] w fun e w' => e = .returned (.tuple #[.string (strOf n), .string (strOf d)]) ∧ Below w.heap.size w w')) (D1 : (∀ w, EnvR w → Calls Tryz.prog 89 #[.string (strOf n)] w fun e w' => e = .returned (.bool true) ∧ Below w.heap.size w w')) (D2 : (∀ w, EnvR w → Calls Tryz.prog 89 #[.string (strOf d)] w fun e w' => e = .returned (.bool true) ∧ Below w.heap.size w w')) (hl : (s.size : Int) ≤ 200) (t b r : ByteArray) (z e1 e2 : Int) (P1 : (∀ w, EnvR w → Calls Tryz.prog 90 #[.string (sg ++ strOf n)] w fun e w' => e = .returned (.tuple #[.string t, .int .i64 e1]) ∧ Below w.heap.size w w')) (P2 : (∀ w, EnvR w → Calls Tryz.prog 90 #[.string (strOf d)] w fun e w' => e = .returned (.tuple #[.string b, .int .i64 e2]) ∧ Below w.heap.size w w')) (N : (∀ w, EnvR w → Calls Tryz.prog 22 #[.string t, .string b] w fun e w' => e = .returned (.tuple #[.string r, .int .i64 z]) ∧ Below w.heap.size w w')) (w : World) (R : EnvR w) :
    Calls Tryz.prog 28 #[.string s] w fun e w' => e = .returned (.tuple #[.string r, .int .i64 z]) ∧ Below w.heap.size w w' := by
  have hn' : (strOf n).size ≤ 1000000 := by rw [strOf_size]; exact hn
  rcases S with ⟨rfl, rfl, hp, hm⟩ | ⟨rfl, rfl, hp⟩ | ⟨rfl, rfl, hp, hm⟩
  · rcases F with F | ⟨u, v, F, G⟩
    · exact parse_nfy s _ _ _ _ _ _ _ _ h0 hs hn' hp hm hl F D1 D2 P1 P2 N w R
    · exact parse_ndy s _ _ _ _ _ _ _ _ _ _ h0 hs hn' hp hm hl F G D1 D2 P1 P2 N w R
  · rcases F with F | ⟨u, v, F, G⟩
    · exact parse_pfy s _ _ _ _ _ _ _ _ h0 hs hn' hp hl F D1 D2 P1 P2 N w R
    · exact parse_pdy s _ _ _ _ _ _ _ _ _ _ h0 hs hn' hp hl F G D1 D2 P1 P2 N w R
  · rcases F with F | ⟨u, v, F, G⟩
    · exact parse_mfy s _ _ _ _ _ _ _ _ h0 hs hn' hp hm hl F D1 D2 P1 P2 N w R
    · exact parse_mdy s _ _ _ _ _ _ _ _ _ _ h0 hs hn' hp hm hl F G D1 D2 P1 P2 N w R
theorem rparse_any (s : ByteArray) (hs : s.size ≤ 300000) (w : World) (R : EnvR w) :
    Calls Tryz.prog 28 #[.string s] w fun e w' => e = .returned (.tuple #[.string (strOf (parseQ s.data.toList).1), .int .i64 (parseQ s.data.toList).2]) ∧ Below w.heap.size w w' := by
  by_cases h0 : 0 < s.size
  · have hne := ne_of_size s h0
    have hsl := size_len s
    obtain ⟨T, sg, S, hT, hTs, hsg, hneg⟩ := sg_of s h0
    obtain ⟨n, d, hnd⟩ : ∃ n d, fracL T.data.toList = (n, d) := ⟨_, _, rfl⟩
    have hl := frac_len T.data.toList
    rw [hnd, ← size_len] at hl
    have F := frac_calls T (by omega) hnd
    rw [hT] at hnd
    have D : ∀ (x : List UInt8) (b : Bool), digB x = b → ∀ w, EnvR w → Calls Tryz.prog 89 #[.string (strOf x)] w fun e w' => e = .returned (.bool b) ∧ Below w.heap.size w w' := fun x b h w R => risDigits_any (strOf x) b h w R
    simp only at hl
    cases h1 : digB n with
    | false =>
      rw [pq_syn hne hnd (by rw [h1]; rfl)]
      exact parse_n s T sg n d h0 S (by omega) (by omega) F (D n _ h1) w R
    | true =>
      cases h2 : digB d with
      | false =>
        rw [pq_syn hne hnd (by rw [h1, h2]; rfl)]
        exact parse_d s T sg n d h0 S (by omega) (by omega) F (D n _ h1) (D d _ h2) w R
      | true =>
        by_cases h3 : 200 < s.size
        · rw [pq_long hne hnd h1 h2 (by omega)]
          exact parse_l s T sg n d h0 S (by omega) (by omega) F (D n _ h1) (D d _ h2) (by omega) w R
        · have hN : numQ s.data.toList n = if sg.data.toList = [45] then -(val n : Int) else val n := by
            unfold numQ; rw [hneg]; simp
          have P1 : ∀ w, EnvR w → Calls Tryz.prog 90 #[.string (sg ++ strOf n)] w fun e w' => e = .returned (.tuple #[.string (itoaB (numQ s.data.toList n)), .int .i64 0]) ∧ Below w.heap.size w w' := fun w _ => by
            rw [hN]; exact iparse_dig h1 (by omega) sg hsg w
          have P2 : ∀ w, EnvR w → Calls Tryz.prog 90 #[.string (strOf d)] w fun e w' => e = .returned (.tuple #[.string (itoaB (val d)), .int .i64 0]) ∧ Below w.heap.size w w' := fun w _ => by
            have := iparse_dig h2 (by omega) ⟨#[]⟩ (.inl rfl) w
            rwa [show (⟨#[]⟩ : ByteArray) ++ strOf d = strOf d from dat_inj (by rw [cat_data]; rfl), if_neg (by decide)] at this
          by_cases h4 : val d = 0
          · rw [pq_zero hne hnd h1 h2 (by omega) h4]
            rw [h4] at P2
            exact parse_y s T sg n d h0 S (by omega) (by omega) F (D n _ h1) (D d _ h2) (by omega) _ _ _ _ _ _ P1 P2 (fun w R => rnew_zero _ w R) w R
          · rw [pq_ok hne hnd h1 h2 (by omega) h4]
            have v1 := val_lt n (digB_iff.1 h1).1
            have v2 := val_lt d (digB_iff.1 h2).1
            have b1 : dlen (numQ s.data.toList n) ≤ 250 := dlen_le _ 250 (by decide) (Nat.lt_of_lt_of_le (by rw [hN]; split <;> omega) (Nat.pow_le_pow_right (by decide) (by omega : n.length ≤ 250)))
            have b2 : dlen (val d : Int) ≤ 250 := dlen_le _ 250 (by decide) (Nat.lt_of_lt_of_le (by omega) (Nat.pow_le_pow_right (by decide) (by omega : d.length ≤ 250)))
            exact parse_y s T sg n d h0 S (by omega) (by omega) F (D n _ h1) (D d _ h2) (by omega) _ _ _ _ _ _ P1 P2 (fun w R => rnew_any _ _ w R (by omega) (by omega) (by omega)) w R
  · have e : s.data.toList = [] := by rw [← List.length_eq_zero_iff, ← size_len]; omega
    rw [e]
    exact parse_empty s (by rw [Lib.toList_data, e]; rfl) w R
end Go.Proofs.YtgllflfifbacnaaGreatDoor.Kl
