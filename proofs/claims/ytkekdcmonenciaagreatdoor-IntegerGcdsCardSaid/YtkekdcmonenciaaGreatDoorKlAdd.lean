/- Contracts: the reference's Add, Sub, Sign, Compare on the texts of integers. -/
import Derived.Test.YtkekdcmonenciaaGreatDoorKlGive
import Derived.Test.YtkekdcmonenciaaGreatDoorKlTake
import Derived.Test.YtkekdcmonenciaaGreatDoorKlRefSmall
namespace Go.Proofs.YtkekdcmonenciaaGreatDoor.Kl
open Go Go.RowKit

/-- How long the decimal text of a magnitude is. -/
def dlen (x : Int) : Nat := (Lib.decDigits x.natAbs).length
theorem itoaB_data (x : Int) : (itoaB x).data.toList = Lib.itoa x := rfl
theorem magB_itoa (x : Int) : magB (itoaB x) = strOf (Lib.decDigits x.natAbs) := by unfold magB; rw [itoaB_data, mag_itoa]
theorem itoa_len (x : Int) : (Lib.itoa x).length = dlen x + (if x < 0 then 1 else 0) := by
  have h1 := mag_length (Lib.itoa x)
  rw [mag_itoa, neg_itoa] at h1
  have h2 := itoa_pos' x
  unfold dlen
  by_cases h : x < 0
  · rw [decide_eq_true h, if_pos rfl] at h1; rw [if_pos h]; omega
  · rw [decide_eq_false h, if_neg (by decide)] at h1; rw [if_neg h]; omega
where
  itoa_pos' (x : Int) : 0 < (Lib.itoa x).length := by
    unfold Lib.itoa; split
    · simp
    · exact List.length_pos_iff.2 (decDigits_ne _)
theorem itoaB_size (x : Int) (h : dlen x ≤ 100000) : (itoaB x).size ≤ 100001 := by
  unfold itoaB; rw [strOf_size, itoa_len]; split <;> omega
theorem dig_lt (N : Nat) : N < 10 ^ (Lib.decDigits N).length := by
  have := val_lt _ (decDigits_dig N); rwa [val_decDigits] at this
theorem pcN_len (N : Nat) (k : Nat) (h : N < 10000 ^ k) : (pcN N).length ≤ k := by
  by_cases h0 : N = 0
  · subst h0; rw [pcN, dif_pos rfl]; exact Nat.zero_le _
  · obtain ⟨hI, hV⟩ := pcN_isP N
    rcases snoc_cases (pcN N) with e | ⟨ys, y, e⟩
    · rw [e]; exact Nat.zero_le _
    · have hy : y ≠ 0 := fun e2 => hI.2 (by rw [e, e2]; simp)
      have hy1 := hI.1 y (by rw [e]; simp)
      have h1 : 0 ≤ pval 10000 ys := pval_nonneg (by decide) (fun u hu => hI.1 u (by rw [e]; exact List.mem_append_left _ hu))
      rw [e, pval_append] at hV
      have h2 : (10000 : Int) ^ ys.length * 1 ≤ 10000 ^ ys.length * pval 10000 [y] := Int.mul_le_mul_of_nonneg_left (by show 1 ≤ y + 10000 * 0; omega) (Int.le_of_lt (Int.pow_pos (by decide)))
      have h3 : (10000 : Int) ^ ys.length ≤ (N : Int) := by omega
      have h4 : 10000 ^ ys.length ≤ N := by
        have : ((10000 ^ ys.length : Nat) : Int) ≤ (N : Int) := by rw [Int.natCast_pow]; exact h3
        omega
      rw [e, List.length_append]
      have h5 : 10000 ^ ys.length < 10000 ^ k := Nat.lt_of_le_of_lt h4 h
      have := (Nat.pow_lt_pow_iff_right (by decide : 1 < 10000)).1 h5
      simp; omega
theorem pcN_len_dec (N k : Nat) (h : (Lib.decDigits N).length ≤ k) : (pcN N).length ≤ k := by
  refine pcN_len N k (Nat.lt_of_lt_of_le (dig_lt N) ?_)
  exact Nat.le_trans (Nat.pow_le_pow_right (by decide) h) (Nat.pow_le_pow_left (by decide) k)

set_option maxRecDepth 100000 in
set_option maxHeartbeats 1000000 in
theorem brief_short (x : Int) (w : World) (h : dlen x ≤ 17) :
    Calls Tryz.prog 41 #[.string (itoaB x)] w fun e w' => e = .returned (.tuple #[.int .i64 x, .bool true]) ∧ Below w.heap.size w w' := by
  have hlt : x.natAbs < 10 ^ 17 := Nat.lt_of_lt_of_le (dig_lt _) (Nat.pow_le_pow_right (by decide) h)
  have hlt' : x.natAbs < 100000000000000000 := hlt
  have hm : (magB (itoaB x)).size ≤ 17 := by rw [magB_itoa, strOf_size]; exact h
  have hs : (itoaB x).size ≤ 1000000 := by have := itoaB_size x (by omega); omega
  have h1 := refSmall_any (itoaB x) w hs (canon_itoa x)
  have e1 : smI (itoaB x).data.toList = x := by unfold smI; rw [itoaB_data, smallV_itoa x (by omega) (by omega)]; rfl
  have e2 : smB (itoaB x).data.toList = true := by unfold smB; rw [itoaB_data, smallV_itoa x (by omega) (by omega)]; rfl
  have c1 : ∀ w, Calls Tryz.prog 49 #[.string (itoaB x)] w fun e w' => e = .returned (.tuple #[.int .i64 x, .bool true]) ∧ Below w.heap.size w w' := fun w => by
    have := refSmall_any (itoaB x) w hs (canon_itoa x); rwa [e1, e2] at this
  have C1 := Lib.hid c1
  obtain ⟨a, ha⟩ : ∃ a, itoaB x = a := ⟨_, rfl⟩
  rw [ha] at hm hs C1 ⊢
  clear c1 h1 e1 e2 hlt ha
  have hb := Below.refl w.heap.size w
  go_enter Tryz.func41, Tryz.ntmps41
  go_wp2_with (first | (go_at_call 42; refine (chain hb (split_any _ _ _ rfl)).mono ?_; clear hb; rintro e w1 ⟨rfl, hb⟩) | (go_at_call 49; refine (chain hb (C1.out _)).mono ?_; clear hb; rintro e w1 ⟨rfl, hb⟩))
  go_ret2
  exact ⟨rfl, hb⟩
set_option maxRecDepth 100000 in
set_option maxHeartbeats 1000000 in
theorem brief_long (x : Int) (w : World) (h : 17 < dlen x) (hl : dlen x ≤ 100000) :
    Calls Tryz.prog 41 #[.string (itoaB x)] w fun e w' => e = .returned (.tuple #[.int .i64 0, .bool false]) ∧ Below w.heap.size w w' := by
  have hm : 17 < (magB (itoaB x)).size := by rw [magB_itoa, strOf_size]; exact h
  have hs : (itoaB x).size ≤ 1000000 := by have := itoaB_size x hl; omega
  have hml := magB_le (itoaB x)
  obtain ⟨a, ha⟩ : ∃ a, itoaB x = a := ⟨_, rfl⟩
  rw [ha] at hm hs hml ⊢
  clear ha
  have hb := Below.refl w.heap.size w
  go_enter Tryz.func41, Tryz.ntmps41
  go_wp2_with (first | (go_at_call 42; refine (chain hb (split_any _ _ _ rfl)).mono ?_; clear hb; rintro e w1 ⟨rfl, hb⟩))
  go_ret2
  exact ⟨rfl, hb⟩
theorem joined_any (p q : Option Addr) (n c m d N M : Nat) (k : Int) (w : World) (hn : n = (pcN N).length) (hm : m = (pcN M).length) (hnl : n ≤ 100000) (hml : m ≤ 100000) (hnc : n ≤ c) (hpc : p = none → c = 0)
    (hp : Has w p (pcN N)) (hq : Has w q (pcN M)) (hk0 : -10000 ≤ k) (hk1 : k ≤ 10000) (hV0 : 0 ≤ (N : Int) + k * M) :
    Calls Tryz.prog 45 #[.slice p n c, .slice q m d, .int .i64 k, .int .i64 0] w (RetP w (pcN ((N : Int) + k * M).toNat)) := by
  have hr : ∀ N : Nat, ∀ j : Nat, 0 ≤ (pcN N)[j]?.getD 0 ∧ (pcN N)[j]?.getD 0 < 10000 := fun N j => by
    rcases h : (pcN N)[j]? with _ | z
    · exact ⟨by decide, by decide⟩
    · exact (pcN_isP N).1.1 z (List.mem_of_getElem? h)
  have eN := (pcN_isP N).2
  have eM := (pcN_isP M).2
  have e : pval 10000 (pcN N) + k * pval 10000 (pcN M) = (N : Int) + k * M := by rw [eN, eM]
  rcases p with _ | ad
  · obtain rfl := hpc rfl
    obtain rfl : n = 0 := by omega
    have := joined_nil q 0 m d (pcN N) (pcN M) k w hn hm hnl hml hp hq hk0 hk1 (hr N) (hr M) (by rw [e]; exact hV0)
    rwa [e] at this
  · have := joined_some ad q n c m d (pcN N) (pcN M) k w hn hm hnl hml hp hq hk0 hk1 (hr N) (hr M) (by rw [e]; exact hV0)
    rwa [e] at this
theorem sgn_of (z : Int) (b : Bool) (N : Nat) (h : N = z.natAbs) (hb : 0 < N → b = decide (z < 0)) : sgn b N = Lib.itoa z := by
  rw [← sgn_itoa]
  by_cases h0 : 0 < N
  · rw [hb h0, h]
  · have e1 : N = 0 := by omega
    have e2 : z.natAbs = 0 := by omega
    rw [e1, e2]; unfold sgn
    simp
theorem dec_add_len (K N M x : Nat) (hK : 0 < K) (h1 : (Lib.decDigits N).length ≤ K) (h2 : (Lib.decDigits M).length ≤ K) (hx : x ≤ N + M) : (Lib.decDigits x).length ≤ K + 1 := by
  refine dec_len_le x (K + 1) ?_ (by omega)
  have a := Nat.lt_of_lt_of_le (dig_lt N) (Nat.pow_le_pow_right (by decide) h1)
  have b := Nat.lt_of_lt_of_le (dig_lt M) (Nat.pow_le_pow_right (by decide) h2)
  rw [Nat.pow_succ]; omega
/-- A slice that holds pieces. -/
structure Sl (w : World) (p : Option Addr) (n c : Nat) (X : Nat) : Prop where
  len : n = (pcN X).length
  cap : n ≤ c
  top : c ≤ 9223372036854775807
  nil : p = none → c = 0
  has : Has w p (pcN X)
theorem Sl.below {w w' : World} {p : Option Addr} {n c X : Nat} (h : Sl w p n c X) (hb : Below w.heap.size w w') : Sl w' p n c X := ⟨h.len, h.cap, h.top, h.nil, h.has.below hb⟩
theorem chainR {P : Program} {K : FuncId} {args : Array Value} {w w0 : World} {X : Nat} (hb : Below w0.heap.size w0 w) (h : Calls P K args w (RetP w (pcN X))) :
    Calls P K args w fun e w' => ∃ p n c, e = .returned (.slice p n c) ∧ Sl w' p n c X ∧ Below w.heap.size w w' ∧ Below w0.heap.size w0 w' :=
  h.mono fun _ _ ⟨p, n, c, e, h1, h2, h3, h4, h5, h6⟩ => ⟨p, n, c, e, ⟨h1, h2, h3, h4, h5⟩, h6, hb.trans (h6.mono hb.size)⟩
theorem chain2 {P : Program} {K : FuncId} {args : Array Value} {w w0 : World} {v : Value} (hb : Below w0.heap.size w0 w)
    (h : Calls P K args w fun e w' => e = .returned v ∧ Below w.heap.size w w') : Calls P K args w fun e w' => e = .returned v ∧ Below w.heap.size w w' ∧ Below w0.heap.size w0 w' :=
  h.mono fun _ _ ⟨a, b⟩ => ⟨a, b, hb.trans (b.mono hb.size)⟩
theorem less_sl {p q : Option Addr} {n c m d X Y : Nat} {w : World} (h1 : Sl w p n c X) (h2 : Sl w q m d Y) (hX : (pcN X).length ≤ 100000) (hY : (pcN Y).length ≤ 100000) (b : Bool) (hb : decide (X < Y) = b) :
    Calls Tryz.prog 46 #[.slice p n c, .slice q m d] w fun e w' => e = .returned (.bool b) ∧ Below w.heap.size w w' := by
  have := less_any p q n c m d _ _ w h1.len h2.len (by rw [h1.len]; omega) (by rw [h2.len]; omega) (pcN_isP X).1 (pcN_isP Y).1 h1.has h2.has
  rwa [(pcN_isP X).2, (pcN_isP Y).2, show decide ((X : Int) < (Y : Int)) = b by rw [← hb, decide_eq_decide]; omega] at this
theorem joined_sl {p q : Option Addr} {n c m d X Y : Nat} {w : World} (h1 : Sl w p n c X) (h2 : Sl w q m d Y) (hX : (pcN X).length ≤ 100000) (hY : (pcN Y).length ≤ 100000) (k : Int) (hk0 : -10000 ≤ k) (hk1 : k ≤ 10000) (V : Nat) (hV : (X : Int) + k * Y = V) :
    Calls Tryz.prog 45 #[.slice p n c, .slice q m d, .int .i64 k, .int .i64 0] w (RetP w (pcN V)) := by
  have := joined_any p q n c m d X Y k w h1.len h2.len (by rw [h1.len]; exact hX) (by rw [h2.len]; exact hY) h1.cap h1.nil h1.has h2.has hk0 hk1 (by rw [hV]; omega)
  rwa [hV, show ((V : Nat) : Int).toNat = V by omega] at this
theorem made_sl {p : Option Addr} {n c X : Nat} {w : World} (E : Env w) (h1 : Sl w p n c X) (hX : (pcN X).length ≤ 100000) (hd : (Lib.decDigits X).length ≤ 1000000) (b : Bool) (r : ByteArray) (hr : strOf (sgn b X) = r) :
    Calls Tryz.prog 44 #[.bool b, .slice p n c] w fun e w' => e = .returned (.string r) ∧ Below w.heap.size w w' := by
  have := made_any b p n c X w E h1.len (by rw [h1.len]; exact hX) h1.cap h1.top h1.nil h1.has hd
  rwa [hr] at this
/-- What the reference's Add has of its two texts. -/
structure AddIn (a b sx sy : ByteArray) (v1 v2 : Int) (b1 b2 mx my : Bool) (X Y : Nat) : Prop where
  br1 : ∀ w, Calls Tryz.prog 41 #[.string a] w fun e w' => e = .returned (.tuple #[.int .i64 v1, .bool b1]) ∧ Below w.heap.size w w'
  br2 : ∀ w, Calls Tryz.prog 41 #[.string b] w fun e w' => e = .returned (.tuple #[.int .i64 v2, .bool b2]) ∧ Below w.heap.size w w'
  sp1 : ∀ w, Calls Tryz.prog 42 #[.string a] w fun e w' => e = .returned (.tuple #[.bool mx, .string sx]) ∧ Below w.heap.size w w'
  sp2 : ∀ w, Calls Tryz.prog 42 #[.string b] w fun e w' => e = .returned (.tuple #[.bool my, .string sy]) ∧ Below w.heap.size w w'
  tk1 : ∀ w, Calls Tryz.prog 43 #[.string sx] w (RetP w (pcN X))
  tk2 : ∀ w, Calls Tryz.prog 43 #[.string sy] w (RetP w (pcN Y))
  lX : (pcN X).length ≤ 100000
  lY : (pcN Y).length ≤ 100000
  lS : ∀ V, V ≤ X + Y → (pcN V).length ≤ 100000 ∧ (Lib.decDigits V).length ≤ 1000000

set_option maxRecDepth 100000 in
set_option maxHeartbeats 2000000 in
theorem add_same {a b sx sy : ByteArray} {v1 v2 : Int} {b1 b2 mx my : Bool} {X Y : Nat} (I : AddIn a b sx sy v1 v2 b1 b2 mx my X Y) (hmy : mx = my) (hn : (b1 && b2) = false) (r : ByteArray) (hr : strOf (sgn mx (X + Y)) = r) (w : World) (E : Env w) :
    Calls Tryz.prog 14 #[.string a, .string b] w fun e w' => e = .returned (.string r) ∧ Below w.heap.size w w' := by
  subst hmy
  have hb := Below.refl w.heap.size w
  have j : ∀ p n c q m d w, Sl w p n c X → Sl w q m d Y → Calls Tryz.prog 45 #[.slice p n c, .slice q m d, .int .i64 1, .int .i64 0] w (RetP w (pcN (X + Y))) :=
    fun p n c q m d w h1 h2 => joined_sl h1 h2 I.lX I.lY (1) (by decide) (by decide) (X + Y) (by omega)
  have J := Lib.hid j
  have m0 : ∀ p n c w, Env w → Sl w p n c (X + Y) → Calls Tryz.prog 44 #[.bool (mx), .slice p n c] w fun e w' => e = .returned (.string r) ∧ Below w.heap.size w w' :=
    fun p n c w E h => made_sl E h (I.lS _ (Nat.le_refl _)).1 (I.lS _ (Nat.le_refl _)).2 (mx) r hr
  have M := Lib.hid m0
  clear hr j m0
  go_enter Tryz.func14, Tryz.ntmps14
  cases b1 with
  | false =>
    clear hn
    cases mx <;> (go_wp2_with (first | (go_at_call 41; first | (with_reducible refine (chain hb (I.br1 _)).mono ?_; clear hb; rintro e w1 ⟨rfl, hb⟩) | (with_reducible refine (chain hb (I.br2 _)).mono ?_; clear hb; rintro e w1 ⟨rfl, hb⟩)) | (go_at_call 42; first | (with_reducible refine (chain hb (I.sp1 _)).mono ?_; clear hb; rintro e w1 ⟨rfl, hb⟩) | (with_reducible refine (chain hb (I.sp2 _)).mono ?_; clear hb; rintro e w1 ⟨rfl, hb⟩)) | (go_at_call 43; first | (with_reducible refine (chainR hb (I.tk1 _)).mono ?_; clear hb; rintro e w1 ⟨p, n, c, rfl, hp, -, hb⟩) | (with_reducible refine (chainR hb (I.tk2 _)).mono ?_; clear hb; rintro e w2 ⟨q, m, d, rfl, hq, hb1, hb⟩; replace hp := hp.below hb1; clear hb1)) | (go_at_call 45; refine (chainR hb (J.out _ _ _ _ _ _ _ hp hq)).mono ?_; clear hb hp hq; rintro e w3 ⟨o, l, f, rfl, ho, -, hb⟩) | (go_at_call 46; refine (chain2 hb (L.out _ _ _ _ _ _ _ hp hq)).mono ?_; clear hb; rintro e w4 ⟨rfl, hb1, hb⟩; replace hp := hp.below hb1; replace hq := hq.below hb1; clear hb1) | (go_at_call 44; refine (chain hb (M.out _ _ _ _ (E.below hb) ho)).mono ?_; clear hb; rintro e w5 ⟨rfl, hb⟩)); go_ret; exact ⟨rfl, hb⟩)
  | true =>
    cases b2 with
    | true => exact absurd hn (by decide)
    | false =>
      clear hn
      cases mx <;> (go_wp2_with (first | (go_at_call 41; first | (with_reducible refine (chain hb (I.br1 _)).mono ?_; clear hb; rintro e w1 ⟨rfl, hb⟩) | (with_reducible refine (chain hb (I.br2 _)).mono ?_; clear hb; rintro e w1 ⟨rfl, hb⟩)) | (go_at_call 42; first | (with_reducible refine (chain hb (I.sp1 _)).mono ?_; clear hb; rintro e w1 ⟨rfl, hb⟩) | (with_reducible refine (chain hb (I.sp2 _)).mono ?_; clear hb; rintro e w1 ⟨rfl, hb⟩)) | (go_at_call 43; first | (with_reducible refine (chainR hb (I.tk1 _)).mono ?_; clear hb; rintro e w1 ⟨p, n, c, rfl, hp, -, hb⟩) | (with_reducible refine (chainR hb (I.tk2 _)).mono ?_; clear hb; rintro e w2 ⟨q, m, d, rfl, hq, hb1, hb⟩; replace hp := hp.below hb1; clear hb1)) | (go_at_call 45; refine (chainR hb (J.out _ _ _ _ _ _ _ hp hq)).mono ?_; clear hb hp hq; rintro e w3 ⟨o, l, f, rfl, ho, -, hb⟩) | (go_at_call 46; refine (chain2 hb (L.out _ _ _ _ _ _ _ hp hq)).mono ?_; clear hb; rintro e w4 ⟨rfl, hb1, hb⟩; replace hp := hp.below hb1; replace hq := hq.below hb1; clear hb1) | (go_at_call 44; refine (chain hb (M.out _ _ _ _ (E.below hb) ho)).mono ?_; clear hb; rintro e w5 ⟨rfl, hb⟩)); go_ret; exact ⟨rfl, hb⟩)
set_option maxRecDepth 100000 in
set_option maxHeartbeats 2000000 in
theorem add_less {a b sx sy : ByteArray} {v1 v2 : Int} {b1 b2 mx my : Bool} {X Y : Nat} (I : AddIn a b sx sy v1 v2 b1 b2 mx my X Y) (hmy : my = !mx) (hn : (b1 && b2) = false) (hlt : X < Y) (r : ByteArray) (hr : strOf (sgn (!mx) (Y - X)) = r) (w : World) (E : Env w) :
    Calls Tryz.prog 14 #[.string a, .string b] w fun e w' => e = .returned (.string r) ∧ Below w.heap.size w w' := by
  subst hmy
  have hb := Below.refl w.heap.size w
  have j : ∀ p n c q m d w, Sl w p n c X → Sl w q m d Y → Calls Tryz.prog 45 #[.slice q m d, .slice p n c, .int .i64 (-1), .int .i64 0] w (RetP w (pcN (Y - X))) :=
    fun p n c q m d w h1 h2 => joined_sl h2 h1 I.lY I.lX ((-1)) (by decide) (by decide) (Y - X) (by omega)
  have J := Lib.hid j
  have m0 : ∀ p n c w, Env w → Sl w p n c (Y - X) → Calls Tryz.prog 44 #[.bool (!mx), .slice p n c] w fun e w' => e = .returned (.string r) ∧ Below w.heap.size w w' :=
    fun p n c w E h => made_sl E h (I.lS _ (by omega)).1 (I.lS _ (by omega)).2 (!mx) r hr
  have M := Lib.hid m0
  have l : ∀ p n c q m d w, Sl w p n c X → Sl w q m d Y → Calls Tryz.prog 46 #[.slice p n c, .slice q m d] w fun e w' => e = .returned (.bool true) ∧ Below w.heap.size w w' :=
    fun p n c q m d w h1 h2 => less_sl h1 h2 I.lX I.lY true (by first | exact decide_eq_true hlt | exact decide_eq_false hlt)
  have L := Lib.hid l
  clear hr j m0 l hlt
  go_enter Tryz.func14, Tryz.ntmps14
  cases b1 with
  | false =>
    clear hn
    cases mx <;> (go_wp2_with (first | (go_at_call 41; first | (with_reducible refine (chain hb (I.br1 _)).mono ?_; clear hb; rintro e w1 ⟨rfl, hb⟩) | (with_reducible refine (chain hb (I.br2 _)).mono ?_; clear hb; rintro e w1 ⟨rfl, hb⟩)) | (go_at_call 42; first | (with_reducible refine (chain hb (I.sp1 _)).mono ?_; clear hb; rintro e w1 ⟨rfl, hb⟩) | (with_reducible refine (chain hb (I.sp2 _)).mono ?_; clear hb; rintro e w1 ⟨rfl, hb⟩)) | (go_at_call 43; first | (with_reducible refine (chainR hb (I.tk1 _)).mono ?_; clear hb; rintro e w1 ⟨p, n, c, rfl, hp, -, hb⟩) | (with_reducible refine (chainR hb (I.tk2 _)).mono ?_; clear hb; rintro e w2 ⟨q, m, d, rfl, hq, hb1, hb⟩; replace hp := hp.below hb1; clear hb1)) | (go_at_call 45; refine (chainR hb (J.out _ _ _ _ _ _ _ hp hq)).mono ?_; clear hb hp hq; rintro e w3 ⟨o, l, f, rfl, ho, -, hb⟩) | (go_at_call 46; refine (chain2 hb (L.out _ _ _ _ _ _ _ hp hq)).mono ?_; clear hb; rintro e w4 ⟨rfl, hb1, hb⟩; replace hp := hp.below hb1; replace hq := hq.below hb1; clear hb1) | (go_at_call 44; refine (chain hb (M.out _ _ _ _ (E.below hb) ho)).mono ?_; clear hb; rintro e w5 ⟨rfl, hb⟩)); go_ret; exact ⟨rfl, hb⟩)
  | true =>
    cases b2 with
    | true => exact absurd hn (by decide)
    | false =>
      clear hn
      cases mx <;> (go_wp2_with (first | (go_at_call 41; first | (with_reducible refine (chain hb (I.br1 _)).mono ?_; clear hb; rintro e w1 ⟨rfl, hb⟩) | (with_reducible refine (chain hb (I.br2 _)).mono ?_; clear hb; rintro e w1 ⟨rfl, hb⟩)) | (go_at_call 42; first | (with_reducible refine (chain hb (I.sp1 _)).mono ?_; clear hb; rintro e w1 ⟨rfl, hb⟩) | (with_reducible refine (chain hb (I.sp2 _)).mono ?_; clear hb; rintro e w1 ⟨rfl, hb⟩)) | (go_at_call 43; first | (with_reducible refine (chainR hb (I.tk1 _)).mono ?_; clear hb; rintro e w1 ⟨p, n, c, rfl, hp, -, hb⟩) | (with_reducible refine (chainR hb (I.tk2 _)).mono ?_; clear hb; rintro e w2 ⟨q, m, d, rfl, hq, hb1, hb⟩; replace hp := hp.below hb1; clear hb1)) | (go_at_call 45; refine (chainR hb (J.out _ _ _ _ _ _ _ hp hq)).mono ?_; clear hb hp hq; rintro e w3 ⟨o, l, f, rfl, ho, -, hb⟩) | (go_at_call 46; refine (chain2 hb (L.out _ _ _ _ _ _ _ hp hq)).mono ?_; clear hb; rintro e w4 ⟨rfl, hb1, hb⟩; replace hp := hp.below hb1; replace hq := hq.below hb1; clear hb1) | (go_at_call 44; refine (chain hb (M.out _ _ _ _ (E.below hb) ho)).mono ?_; clear hb; rintro e w5 ⟨rfl, hb⟩)); go_ret; exact ⟨rfl, hb⟩)
set_option maxRecDepth 100000 in
set_option maxHeartbeats 2000000 in
theorem add_more {a b sx sy : ByteArray} {v1 v2 : Int} {b1 b2 mx my : Bool} {X Y : Nat} (I : AddIn a b sx sy v1 v2 b1 b2 mx my X Y) (hmy : my = !mx) (hn : (b1 && b2) = false) (hlt : ¬ X < Y) (r : ByteArray) (hr : strOf (sgn mx (X - Y)) = r) (w : World) (E : Env w) :
    Calls Tryz.prog 14 #[.string a, .string b] w fun e w' => e = .returned (.string r) ∧ Below w.heap.size w w' := by
  subst hmy
  have hb := Below.refl w.heap.size w
  have j : ∀ p n c q m d w, Sl w p n c X → Sl w q m d Y → Calls Tryz.prog 45 #[.slice p n c, .slice q m d, .int .i64 (-1), .int .i64 0] w (RetP w (pcN (X - Y))) :=
    fun p n c q m d w h1 h2 => joined_sl h1 h2 I.lX I.lY ((-1)) (by decide) (by decide) (X - Y) (by omega)
  have J := Lib.hid j
  have m0 : ∀ p n c w, Env w → Sl w p n c (X - Y) → Calls Tryz.prog 44 #[.bool (mx), .slice p n c] w fun e w' => e = .returned (.string r) ∧ Below w.heap.size w w' :=
    fun p n c w E h => made_sl E h (I.lS _ (by omega)).1 (I.lS _ (by omega)).2 (mx) r hr
  have M := Lib.hid m0
  have l : ∀ p n c q m d w, Sl w p n c X → Sl w q m d Y → Calls Tryz.prog 46 #[.slice p n c, .slice q m d] w fun e w' => e = .returned (.bool false) ∧ Below w.heap.size w w' :=
    fun p n c q m d w h1 h2 => less_sl h1 h2 I.lX I.lY false (by first | exact decide_eq_true hlt | exact decide_eq_false hlt)
  have L := Lib.hid l
  clear hr j m0 l hlt
  go_enter Tryz.func14, Tryz.ntmps14
  cases b1 with
  | false =>
    clear hn
    cases mx <;> (go_wp2_with (first | (go_at_call 41; first | (with_reducible refine (chain hb (I.br1 _)).mono ?_; clear hb; rintro e w1 ⟨rfl, hb⟩) | (with_reducible refine (chain hb (I.br2 _)).mono ?_; clear hb; rintro e w1 ⟨rfl, hb⟩)) | (go_at_call 42; first | (with_reducible refine (chain hb (I.sp1 _)).mono ?_; clear hb; rintro e w1 ⟨rfl, hb⟩) | (with_reducible refine (chain hb (I.sp2 _)).mono ?_; clear hb; rintro e w1 ⟨rfl, hb⟩)) | (go_at_call 43; first | (with_reducible refine (chainR hb (I.tk1 _)).mono ?_; clear hb; rintro e w1 ⟨p, n, c, rfl, hp, -, hb⟩) | (with_reducible refine (chainR hb (I.tk2 _)).mono ?_; clear hb; rintro e w2 ⟨q, m, d, rfl, hq, hb1, hb⟩; replace hp := hp.below hb1; clear hb1)) | (go_at_call 45; refine (chainR hb (J.out _ _ _ _ _ _ _ hp hq)).mono ?_; clear hb hp hq; rintro e w3 ⟨o, l, f, rfl, ho, -, hb⟩) | (go_at_call 46; refine (chain2 hb (L.out _ _ _ _ _ _ _ hp hq)).mono ?_; clear hb; rintro e w4 ⟨rfl, hb1, hb⟩; replace hp := hp.below hb1; replace hq := hq.below hb1; clear hb1) | (go_at_call 44; refine (chain hb (M.out _ _ _ _ (E.below hb) ho)).mono ?_; clear hb; rintro e w5 ⟨rfl, hb⟩)); go_ret; exact ⟨rfl, hb⟩)
  | true =>
    cases b2 with
    | true => exact absurd hn (by decide)
    | false =>
      clear hn
      cases mx <;> (go_wp2_with (first | (go_at_call 41; first | (with_reducible refine (chain hb (I.br1 _)).mono ?_; clear hb; rintro e w1 ⟨rfl, hb⟩) | (with_reducible refine (chain hb (I.br2 _)).mono ?_; clear hb; rintro e w1 ⟨rfl, hb⟩)) | (go_at_call 42; first | (with_reducible refine (chain hb (I.sp1 _)).mono ?_; clear hb; rintro e w1 ⟨rfl, hb⟩) | (with_reducible refine (chain hb (I.sp2 _)).mono ?_; clear hb; rintro e w1 ⟨rfl, hb⟩)) | (go_at_call 43; first | (with_reducible refine (chainR hb (I.tk1 _)).mono ?_; clear hb; rintro e w1 ⟨p, n, c, rfl, hp, -, hb⟩) | (with_reducible refine (chainR hb (I.tk2 _)).mono ?_; clear hb; rintro e w2 ⟨q, m, d, rfl, hq, hb1, hb⟩; replace hp := hp.below hb1; clear hb1)) | (go_at_call 45; refine (chainR hb (J.out _ _ _ _ _ _ _ hp hq)).mono ?_; clear hb hp hq; rintro e w3 ⟨o, l, f, rfl, ho, -, hb⟩) | (go_at_call 46; refine (chain2 hb (L.out _ _ _ _ _ _ _ hp hq)).mono ?_; clear hb; rintro e w4 ⟨rfl, hb1, hb⟩; replace hp := hp.below hb1; replace hq := hq.below hb1; clear hb1) | (go_at_call 44; refine (chain hb (M.out _ _ _ _ (E.below hb) ho)).mono ?_; clear hb; rintro e w5 ⟨rfl, hb⟩)); go_ret; exact ⟨rfl, hb⟩)
end Go.Proofs.YtkekdcmonenciaaGreatDoor.Kl
