/- Contracts: the reference's Add, Sub, Sign, Compare on the texts of integers. -/
import Derived.Test.YtgllflfifbacnaaGreatDoorKlGive
import Derived.Test.YtgllflfifbacnaaGreatDoorKlTake
import Derived.Test.YtgllflfifbacnaaGreatDoorKlCanon
namespace Go.Proofs.YtgllflfifbacnaaGreatDoor.Kl
open Go Go.RowKit

/-- How long the decimal text of a magnitude is. -/
def dlen (x : Int) : Nat := (Lib.decDigits x.natAbs).length
theorem itoaB_data (x : Int) : (itoaB x).data.toList = Lib.itoa x := rfl
theorem magB_itoa (x : Int) : magB (itoaB x) = strOf (Lib.decDigits x.natAbs) := by unfold magB; rw [itoaB_data, mag_itoa]
theorem itoa_len (x : Int) : (Lib.itoa x).length = dlen x + (if x < 0 then 1 else 0) := by
  have h1 := mag_length (Lib.itoa x)
  rw [mag_itoa, neg_itoa] at h1
  have h2 := itoa_pos' x
  unfold dlen
  by_cases h : x < 0
  · rw [decide_eq_true h, if_pos rfl] at h1; rw [if_pos h]; omega
  · rw [decide_eq_false h, if_neg (by decide)] at h1; rw [if_neg h]; omega
where
  itoa_pos' (x : Int) : 0 < (Lib.itoa x).length := by
    unfold Lib.itoa; split
    · simp
    · exact List.length_pos_iff.2 (decDigits_ne _)
theorem itoaB_size (x : Int) (h : dlen x ≤ 100000) : (itoaB x).size ≤ 100001 := by
  unfold itoaB; rw [strOf_size, itoa_len]; split <;> omega
theorem dig_lt (N : Nat) : N < 10 ^ (Lib.decDigits N).length := by
  have := val_lt _ (decDigits_dig N); rwa [val_decDigits] at this
theorem pcN_len (N : Nat) (k : Nat) (h : N < 10000 ^ k) : (pcN N).length ≤ k := by
  by_cases h0 : N = 0
  · subst h0; rw [pcN, dif_pos rfl]; exact Nat.zero_le _
  · obtain ⟨hI, hV⟩ := pcN_isP N
    rcases snoc_cases (pcN N) with e | ⟨ys, y, e⟩
    · rw [e]; exact Nat.zero_le _
    · have hy : y ≠ 0 := fun e2 => hI.2 (by rw [e, e2]; simp)
      have hy1 := hI.1 y (by rw [e]; simp)
      have h1 : 0 ≤ pval 10000 ys := pval_nonneg (by decide) (fun u hu => hI.1 u (by rw [e]; exact List.mem_append_left _ hu))
      rw [e, pval_append] at hV
      have h2 : (10000 : Int) ^ ys.length * 1 ≤ 10000 ^ ys.length * pval 10000 [y] := Int.mul_le_mul_of_nonneg_left (by show 1 ≤ y + 10000 * 0; omega) (Int.le_of_lt (Int.pow_pos (by decide)))
      have h3 : (10000 : Int) ^ ys.length ≤ (N : Int) := by omega
      have h4 : 10000 ^ ys.length ≤ N := by
        have : ((10000 ^ ys.length : Nat) : Int) ≤ (N : Int) := by rw [Int.natCast_pow]; exact h3
        omega
      rw [e, List.length_append]
      have h5 : 10000 ^ ys.length < 10000 ^ k := Nat.lt_of_le_of_lt h4 h
      have := (Nat.pow_lt_pow_iff_right (by decide : 1 < 10000)).1 h5
      simp; omega
theorem pcN_len_dec (N k : Nat) (h : (Lib.decDigits N).length ≤ k) : (pcN N).length ≤ k := by
  refine pcN_len N k (Nat.lt_of_lt_of_le (dig_lt N) ?_)
  exact Nat.le_trans (Nat.pow_le_pow_right (by decide) h) (Nat.pow_le_pow_left (by decide) k)

set_option maxRecDepth 100000 in
set_option maxHeartbeats 1000000 in
theorem brief_short (x : Int) (w : World) (h : dlen x ≤ 17) :
    Calls Tryz.prog 132 #[.string (itoaB x)] w fun e w' => e = .returned (.tuple #[.int .i64 x, .bool true]) ∧ Below w.heap.size w w' := by
  have hlt : x.natAbs < 10 ^ 17 := Nat.lt_of_lt_of_le (dig_lt _) (Nat.pow_le_pow_right (by decide) h)
  have hlt' : x.natAbs < 100000000000000000 := hlt
  have hm : (magB (itoaB x)).size ≤ 17 := by rw [magB_itoa, strOf_size]; exact h
  have hs : (itoaB x).size ≤ 1000000 := by have := itoaB_size x (by omega); omega
  have h1 := refSmall_any (itoaB x) w hs (canon_itoa x)
  have e1 : smI (itoaB x).data.toList = x := by unfold smI; rw [itoaB_data, smallV_itoa x (by omega) (by omega)]; rfl
  have e2 : smB (itoaB x).data.toList = true := by unfold smB; rw [itoaB_data, smallV_itoa x (by omega) (by omega)]; rfl
  have c1 : ∀ w, Calls Tryz.prog 149 #[.string (itoaB x)] w fun e w' => e = .returned (.tuple #[.int .i64 x, .bool true]) ∧ Below w.heap.size w w' := fun w => by
    have := refSmall_any (itoaB x) w hs (canon_itoa x); rwa [e1, e2] at this
  have C1 := Lib.hid c1
  obtain ⟨a, ha⟩ : ∃ a, itoaB x = a := ⟨_, rfl⟩
  rw [ha] at hm hs C1 ⊢
  clear c1 h1 e1 e2 hlt ha
  have hb := Below.refl w.heap.size w
  go_enter Tryz.func132, Tryz.ntmps132
  go_wp2_with (first | (go_at_call 71; refine (chain hb (split_any _ _ _ rfl)).mono ?_; clear hb; rintro e w1 ⟨rfl, hb⟩) | (go_at_call 149; refine (chain hb (C1.out _)).mono ?_; clear hb; rintro e w1 ⟨rfl, hb⟩))
  go_ret2
  exact ⟨rfl, hb⟩
set_option maxRecDepth 100000 in
set_option maxHeartbeats 1000000 in
theorem brief_long (x : Int) (w : World) (h : 17 < dlen x) (hl : dlen x ≤ 100000) :
    Calls Tryz.prog 132 #[.string (itoaB x)] w fun e w' => e = .returned (.tuple #[.int .i64 0, .bool false]) ∧ Below w.heap.size w w' := by
  have hm : 17 < (magB (itoaB x)).size := by rw [magB_itoa, strOf_size]; exact h
  have hs : (itoaB x).size ≤ 1000000 := by have := itoaB_size x hl; omega
  have hml := magB_le (itoaB x)
  obtain ⟨a, ha⟩ : ∃ a, itoaB x = a := ⟨_, rfl⟩
  rw [ha] at hm hs hml ⊢
  clear ha
  have hb := Below.refl w.heap.size w
  go_enter Tryz.func132, Tryz.ntmps132
  go_wp2_with (first | (go_at_call 71; refine (chain hb (split_any _ _ _ rfl)).mono ?_; clear hb; rintro e w1 ⟨rfl, hb⟩))
  go_ret2
  exact ⟨rfl, hb⟩
theorem joined_any (p q : Option Addr) (n c m d N M : Nat) (k : Int) (w : World) (hn : n = (pcN N).length) (hm : m = (pcN M).length) (hnl : n ≤ 100000) (hml : m ≤ 100000) (hnc : n ≤ c) (hpc : p = none → c = 0)
    (hp : Has w p (pcN N)) (hq : Has w q (pcN M)) (hk0 : -10000 ≤ k) (hk1 : k ≤ 10000) (hV0 : 0 ≤ (N : Int) + k * M) :
    Calls Tryz.prog 135 #[.slice p n c, .slice q m d, .int .i64 k, .int .i64 0] w (RetP w (pcN ((N : Int) + k * M).toNat)) := by
  have hr : ∀ N : Nat, ∀ j : Nat, 0 ≤ (pcN N)[j]?.getD 0 ∧ (pcN N)[j]?.getD 0 < 10000 := fun N j => by
    rcases h : (pcN N)[j]? with _ | z
    · exact ⟨by decide, by decide⟩
    · exact (pcN_isP N).1.1 z (List.mem_of_getElem? h)
  have eN := (pcN_isP N).2
  have eM := (pcN_isP M).2
  have e : pval 10000 (pcN N) + k * pval 10000 (pcN M) = (N : Int) + k * M := by rw [eN, eM]
  rcases p with _ | ad
  · obtain rfl := hpc rfl
    obtain rfl : n = 0 := by omega
    have := joined_nil q 0 m d (pcN N) (pcN M) k w hn hm hnl hml hp hq hk0 hk1 (hr N) (hr M) (by rw [e]; exact hV0)
    rwa [e] at this
  · have := joined_some ad q n c m d (pcN N) (pcN M) k w hn hm hnl hml hp hq hk0 hk1 (hr N) (hr M) (by rw [e]; exact hV0)
    rwa [e] at this
theorem sgn_of (z : Int) (b : Bool) (N : Nat) (h : N = z.natAbs) (hb : 0 < N → b = decide (z < 0)) : sgn b N = Lib.itoa z := by
  rw [← sgn_itoa]
  by_cases h0 : 0 < N
  · rw [hb h0, h]
  · have e1 : N = 0 := by omega
    have e2 : z.natAbs = 0 := by omega
    rw [e1, e2]; unfold sgn
    simp
theorem dec_add_len (K N M x : Nat) (hK : 0 < K) (h1 : (Lib.decDigits N).length ≤ K) (h2 : (Lib.decDigits M).length ≤ K) (hx : x ≤ N + M) : (Lib.decDigits x).length ≤ K + 1 := by
  refine dec_len_le x (K + 1) ?_ (by omega)
  have a := Nat.lt_of_lt_of_le (dig_lt N) (Nat.pow_le_pow_right (by decide) h1)
  have b := Nat.lt_of_lt_of_le (dig_lt M) (Nat.pow_le_pow_right (by decide) h2)
  rw [Nat.pow_succ]; omega
/-- A slice that holds pieces. -/
structure Sl (w : World) (p : Option Addr) (n c : Nat) (X : Nat) : Prop where
  len : n = (pcN X).length
  cap : n ≤ c
  top : c ≤ 9223372036854775807
  nil : p = none → c = 0
  has : Has w p (pcN X)
theorem Sl.below {w w' : World} {p : Option Addr} {n c X : Nat} (h : Sl w p n c X) (hb : Below w.heap.size w w') : Sl w' p n c X := ⟨h.len, h.cap, h.top, h.nil, h.has.below hb⟩
theorem chainR {P : Program} {K : FuncId} {args : Array Value} {w w0 : World} {X : Nat} (hb : Below w0.heap.size w0 w) (h : Calls P K args w (RetP w (pcN X))) :
    Calls P K args w fun e w' => ∃ p n c, e = .returned (.slice p n c) ∧ Sl w' p n c X ∧ Below w.heap.size w w' ∧ Below w0.heap.size w0 w' :=
  h.mono fun _ _ ⟨p, n, c, e, h1, h2, h3, h4, h5, h6⟩ => ⟨p, n, c, e, ⟨h1, h2, h3, h4, h5⟩, h6, hb.trans (h6.mono hb.size)⟩
theorem chain2 {P : Program} {K : FuncId} {args : Array Value} {w w0 : World} {v : Value} (hb : Below w0.heap.size w0 w)
    (h : Calls P K args w fun e w' => e = .returned v ∧ Below w.heap.size w w') : Calls P K args w fun e w' => e = .returned v ∧ Below w.heap.size w w' ∧ Below w0.heap.size w0 w' :=
  h.mono fun _ _ ⟨a, b⟩ => ⟨a, b, hb.trans (b.mono hb.size)⟩
theorem less_sl {p q : Option Addr} {n c m d X Y : Nat} {w : World} (h1 : Sl w p n c X) (h2 : Sl w q m d Y) (hX : (pcN X).length ≤ 100000) (hY : (pcN Y).length ≤ 100000) (b : Bool) (hb : decide (X < Y) = b) :
    Calls Tryz.prog 155 #[.slice p n c, .slice q m d] w fun e w' => e = .returned (.bool b) ∧ Below w.heap.size w w' := by
  have := less_any p q n c m d _ _ w h1.len h2.len (by rw [h1.len]; omega) (by rw [h2.len]; omega) (pcN_isP X).1 (pcN_isP Y).1 h1.has h2.has
  rwa [(pcN_isP X).2, (pcN_isP Y).2, show decide ((X : Int) < (Y : Int)) = b by rw [← hb, decide_eq_decide]; omega] at this
theorem joined_sl {p q : Option Addr} {n c m d X Y : Nat} {w : World} (h1 : Sl w p n c X) (h2 : Sl w q m d Y) (hX : (pcN X).length ≤ 100000) (hY : (pcN Y).length ≤ 100000) (k : Int) (hk0 : -10000 ≤ k) (hk1 : k ≤ 10000) (V : Nat) (hV : (X : Int) + k * Y = V) :
    Calls Tryz.prog 135 #[.slice p n c, .slice q m d, .int .i64 k, .int .i64 0] w (RetP w (pcN V)) := by
  have := joined_any p q n c m d X Y k w h1.len h2.len (by rw [h1.len]; exact hX) (by rw [h2.len]; exact hY) h1.cap h1.nil h1.has h2.has hk0 hk1 (by rw [hV]; omega)
  rwa [hV, show ((V : Nat) : Int).toNat = V by omega] at this
theorem made_sl {p : Option Addr} {n c X : Nat} {w : World} (E : Env w) (h1 : Sl w p n c X) (hX : (pcN X).length ≤ 100000) (hd : (Lib.decDigits X).length ≤ 1000000) (b : Bool) (r : ByteArray) (hr : strOf (sgn b X) = r) :
    Calls Tryz.prog 136 #[.bool b, .slice p n c] w fun e w' => e = .returned (.string r) ∧ Below w.heap.size w w' := by
  have := made_any b p n c X w E h1.len (by rw [h1.len]; exact hX) h1.cap h1.top h1.nil h1.has hd
  rwa [hr] at this
/-- What the reference's Add has of its two texts. -/
structure AddIn (a b sx sy : ByteArray) (v1 v2 : Int) (b1 b2 mx my : Bool) (X Y : Nat) : Prop where
  br1 : ∀ w, Calls Tryz.prog 132 #[.string a] w fun e w' => e = .returned (.tuple #[.int .i64 v1, .bool b1]) ∧ Below w.heap.size w w'
  br2 : ∀ w, Calls Tryz.prog 132 #[.string b] w fun e w' => e = .returned (.tuple #[.int .i64 v2, .bool b2]) ∧ Below w.heap.size w w'
  sp1 : ∀ w, Calls Tryz.prog 71 #[.string a] w fun e w' => e = .returned (.tuple #[.bool mx, .string sx]) ∧ Below w.heap.size w w'
  sp2 : ∀ w, Calls Tryz.prog 71 #[.string b] w fun e w' => e = .returned (.tuple #[.bool my, .string sy]) ∧ Below w.heap.size w w'
  tk1 : ∀ w, Calls Tryz.prog 134 #[.string sx] w (RetP w (pcN X))
  tk2 : ∀ w, Calls Tryz.prog 134 #[.string sy] w (RetP w (pcN Y))
  lX : (pcN X).length ≤ 100000
  lY : (pcN Y).length ≤ 100000
  lS : ∀ V, V ≤ X + Y → (pcN V).length ≤ 100000 ∧ (Lib.decDigits V).length ≤ 1000000

set_option maxRecDepth 100000 in
set_option maxHeartbeats 2000000 in
theorem add_same {a b sx sy : ByteArray} {v1 v2 : Int} {b1 b2 mx my : Bool} {X Y : Nat} (I : AddIn a b sx sy v1 v2 b1 b2 mx my X Y) (hmy : mx = my) (hn : (b1 && b2) = false) (r : ByteArray) (hr : strOf (sgn mx (X + Y)) = r) (w : World) (E : Env w) :
    Calls Tryz.prog 104 #[.string a, .string b] w fun e w' => e = .returned (.string r) ∧ Below w.heap.size w w' := by
  subst hmy
  have hb := Below.refl w.heap.size w
  have j : ∀ p n c q m d w, Sl w p n c X → Sl w q m d Y → Calls Tryz.prog 135 #[.slice p n c, .slice q m d, .int .i64 1, .int .i64 0] w (RetP w (pcN (X + Y))) :=
    fun p n c q m d w h1 h2 => joined_sl h1 h2 I.lX I.lY (1) (by decide) (by decide) (X + Y) (by omega)
  have J := Lib.hid j
  have m0 : ∀ p n c w, Env w → Sl w p n c (X + Y) → Calls Tryz.prog 136 #[.bool (mx), .slice p n c] w fun e w' => e = .returned (.string r) ∧ Below w.heap.size w w' :=
    fun p n c w E h => made_sl E h (I.lS _ (Nat.le_refl _)).1 (I.lS _ (Nat.le_refl _)).2 (mx) r hr
  have M := Lib.hid m0
  clear hr j m0
  go_enter Tryz.func104, Tryz.ntmps104
  cases b1 with
  | false =>
    clear hn
    cases mx <;> (go_wp2_with (first | (go_at_call 132; first | (with_reducible refine (chain hb (I.br1 _)).mono ?_; clear hb; rintro e w1 ⟨rfl, hb⟩) | (with_reducible refine (chain hb (I.br2 _)).mono ?_; clear hb; rintro e w1 ⟨rfl, hb⟩)) | (go_at_call 71; first | (with_reducible refine (chain hb (I.sp1 _)).mono ?_; clear hb; rintro e w1 ⟨rfl, hb⟩) | (with_reducible refine (chain hb (I.sp2 _)).mono ?_; clear hb; rintro e w1 ⟨rfl, hb⟩)) | (go_at_call 134; first | (with_reducible refine (chainR hb (I.tk1 _)).mono ?_; clear hb; rintro e w1 ⟨p, n, c, rfl, hp, -, hb⟩) | (with_reducible refine (chainR hb (I.tk2 _)).mono ?_; clear hb; rintro e w2 ⟨q, m, d, rfl, hq, hb1, hb⟩; replace hp := hp.below hb1; clear hb1)) | (go_at_call 135; refine (chainR hb (J.out _ _ _ _ _ _ _ hp hq)).mono ?_; clear hb hp hq; rintro e w3 ⟨o, l, f, rfl, ho, -, hb⟩) | (go_at_call 155; refine (chain2 hb (L.out _ _ _ _ _ _ _ hp hq)).mono ?_; clear hb; rintro e w4 ⟨rfl, hb1, hb⟩; replace hp := hp.below hb1; replace hq := hq.below hb1; clear hb1) | (go_at_call 136; refine (chain hb (M.out _ _ _ _ (E.below hb) ho)).mono ?_; clear hb; rintro e w5 ⟨rfl, hb⟩)); go_ret; exact ⟨rfl, hb⟩)
  | true =>
    cases b2 with
    | true => exact absurd hn (by decide)
    | false =>
      clear hn
      cases mx <;> (go_wp2_with (first | (go_at_call 132; first | (with_reducible refine (chain hb (I.br1 _)).mono ?_; clear hb; rintro e w1 ⟨rfl, hb⟩) | (with_reducible refine (chain hb (I.br2 _)).mono ?_; clear hb; rintro e w1 ⟨rfl, hb⟩)) | (go_at_call 71; first | (with_reducible refine (chain hb (I.sp1 _)).mono ?_; clear hb; rintro e w1 ⟨rfl, hb⟩) | (with_reducible refine (chain hb (I.sp2 _)).mono ?_; clear hb; rintro e w1 ⟨rfl, hb⟩)) | (go_at_call 134; first | (with_reducible refine (chainR hb (I.tk1 _)).mono ?_; clear hb; rintro e w1 ⟨p, n, c, rfl, hp, -, hb⟩) | (with_reducible refine (chainR hb (I.tk2 _)).mono ?_; clear hb; rintro e w2 ⟨q, m, d, rfl, hq, hb1, hb⟩; replace hp := hp.below hb1; clear hb1)) | (go_at_call 135; refine (chainR hb (J.out _ _ _ _ _ _ _ hp hq)).mono ?_; clear hb hp hq; rintro e w3 ⟨o, l, f, rfl, ho, -, hb⟩) | (go_at_call 155; refine (chain2 hb (L.out _ _ _ _ _ _ _ hp hq)).mono ?_; clear hb; rintro e w4 ⟨rfl, hb1, hb⟩; replace hp := hp.below hb1; replace hq := hq.below hb1; clear hb1) | (go_at_call 136; refine (chain hb (M.out _ _ _ _ (E.below hb) ho)).mono ?_; clear hb; rintro e w5 ⟨rfl, hb⟩)); go_ret; exact ⟨rfl, hb⟩)
set_option maxRecDepth 100000 in
set_option maxHeartbeats 2000000 in
theorem add_less {a b sx sy : ByteArray} {v1 v2 : Int} {b1 b2 mx my : Bool} {X Y : Nat} (I : AddIn a b sx sy v1 v2 b1 b2 mx my X Y) (hmy : my = !mx) (hn : (b1 && b2) = false) (hlt : X < Y) (r : ByteArray) (hr : strOf (sgn (!mx) (Y - X)) = r) (w : World) (E : Env w) :
    Calls Tryz.prog 104 #[.string a, .string b] w fun e w' => e = .returned (.string r) ∧ Below w.heap.size w w' := by
  subst hmy
  have hb := Below.refl w.heap.size w
  have j : ∀ p n c q m d w, Sl w p n c X → Sl w q m d Y → Calls Tryz.prog 135 #[.slice q m d, .slice p n c, .int .i64 (-1), .int .i64 0] w (RetP w (pcN (Y - X))) :=
    fun p n c q m d w h1 h2 => joined_sl h2 h1 I.lY I.lX ((-1)) (by decide) (by decide) (Y - X) (by omega)
  have J := Lib.hid j
  have m0 : ∀ p n c w, Env w → Sl w p n c (Y - X) → Calls Tryz.prog 136 #[.bool (!mx), .slice p n c] w fun e w' => e = .returned (.string r) ∧ Below w.heap.size w w' :=
    fun p n c w E h => made_sl E h (I.lS _ (by omega)).1 (I.lS _ (by omega)).2 (!mx) r hr
  have M := Lib.hid m0
  have l : ∀ p n c q m d w, Sl w p n c X → Sl w q m d Y → Calls Tryz.prog 155 #[.slice p n c, .slice q m d] w fun e w' => e = .returned (.bool true) ∧ Below w.heap.size w w' :=
    fun p n c q m d w h1 h2 => less_sl h1 h2 I.lX I.lY true (by first | exact decide_eq_true hlt | exact decide_eq_false hlt)
  have L := Lib.hid l
  clear hr j m0 l hlt
  go_enter Tryz.func104, Tryz.ntmps104
  cases b1 with
  | false =>
    clear hn
    cases mx <;> (go_wp2_with (first | (go_at_call 132; first | (with_reducible refine (chain hb (I.br1 _)).mono ?_; clear hb; rintro e w1 ⟨rfl, hb⟩) | (with_reducible refine (chain hb (I.br2 _)).mono ?_; clear hb; rintro e w1 ⟨rfl, hb⟩)) | (go_at_call 71; first | (with_reducible refine (chain hb (I.sp1 _)).mono ?_; clear hb; rintro e w1 ⟨rfl, hb⟩) | (with_reducible refine (chain hb (I.sp2 _)).mono ?_; clear hb; rintro e w1 ⟨rfl, hb⟩)) | (go_at_call 134; first | (with_reducible refine (chainR hb (I.tk1 _)).mono ?_; clear hb; rintro e w1 ⟨p, n, c, rfl, hp, -, hb⟩) | (with_reducible refine (chainR hb (I.tk2 _)).mono ?_; clear hb; rintro e w2 ⟨q, m, d, rfl, hq, hb1, hb⟩; replace hp := hp.below hb1; clear hb1)) | (go_at_call 135; refine (chainR hb (J.out _ _ _ _ _ _ _ hp hq)).mono ?_; clear hb hp hq; rintro e w3 ⟨o, l, f, rfl, ho, -, hb⟩) | (go_at_call 155; refine (chain2 hb (L.out _ _ _ _ _ _ _ hp hq)).mono ?_; clear hb; rintro e w4 ⟨rfl, hb1, hb⟩; replace hp := hp.below hb1; replace hq := hq.below hb1; clear hb1) | (go_at_call 136; refine (chain hb (M.out _ _ _ _ (E.below hb) ho)).mono ?_; clear hb; rintro e w5 ⟨rfl, hb⟩)); go_ret; exact ⟨rfl, hb⟩)
  | true =>
    cases b2 with
    | true => exact absurd hn (by decide)
    | false =>
      clear hn
      cases mx <;> (go_wp2_with (first | (go_at_call 132; first | (with_reducible refine (chain hb (I.br1 _)).mono ?_; clear hb; rintro e w1 ⟨rfl, hb⟩) | (with_reducible refine (chain hb (I.br2 _)).mono ?_; clear hb; rintro e w1 ⟨rfl, hb⟩)) | (go_at_call 71; first | (with_reducible refine (chain hb (I.sp1 _)).mono ?_; clear hb; rintro e w1 ⟨rfl, hb⟩) | (with_reducible refine (chain hb (I.sp2 _)).mono ?_; clear hb; rintro e w1 ⟨rfl, hb⟩)) | (go_at_call 134; first | (with_reducible refine (chainR hb (I.tk1 _)).mono ?_; clear hb; rintro e w1 ⟨p, n, c, rfl, hp, -, hb⟩) | (with_reducible refine (chainR hb (I.tk2 _)).mono ?_; clear hb; rintro e w2 ⟨q, m, d, rfl, hq, hb1, hb⟩; replace hp := hp.below hb1; clear hb1)) | (go_at_call 135; refine (chainR hb (J.out _ _ _ _ _ _ _ hp hq)).mono ?_; clear hb hp hq; rintro e w3 ⟨o, l, f, rfl, ho, -, hb⟩) | (go_at_call 155; refine (chain2 hb (L.out _ _ _ _ _ _ _ hp hq)).mono ?_; clear hb; rintro e w4 ⟨rfl, hb1, hb⟩; replace hp := hp.below hb1; replace hq := hq.below hb1; clear hb1) | (go_at_call 136; refine (chain hb (M.out _ _ _ _ (E.below hb) ho)).mono ?_; clear hb; rintro e w5 ⟨rfl, hb⟩)); go_ret; exact ⟨rfl, hb⟩)
set_option maxRecDepth 100000 in
set_option maxHeartbeats 2000000 in
theorem add_more {a b sx sy : ByteArray} {v1 v2 : Int} {b1 b2 mx my : Bool} {X Y : Nat} (I : AddIn a b sx sy v1 v2 b1 b2 mx my X Y) (hmy : my = !mx) (hn : (b1 && b2) = false) (hlt : ¬ X < Y) (r : ByteArray) (hr : strOf (sgn mx (X - Y)) = r) (w : World) (E : Env w) :
    Calls Tryz.prog 104 #[.string a, .string b] w fun e w' => e = .returned (.string r) ∧ Below w.heap.size w w' := by
  subst hmy
  have hb := Below.refl w.heap.size w
  have j : ∀ p n c q m d w, Sl w p n c X → Sl w q m d Y → Calls Tryz.prog 135 #[.slice p n c, .slice q m d, .int .i64 (-1), .int .i64 0] w (RetP w (pcN (X - Y))) :=
    fun p n c q m d w h1 h2 => joined_sl h1 h2 I.lX I.lY ((-1)) (by decide) (by decide) (X - Y) (by omega)
  have J := Lib.hid j
  have m0 : ∀ p n c w, Env w → Sl w p n c (X - Y) → Calls Tryz.prog 136 #[.bool (mx), .slice p n c] w fun e w' => e = .returned (.string r) ∧ Below w.heap.size w w' :=
    fun p n c w E h => made_sl E h (I.lS _ (by omega)).1 (I.lS _ (by omega)).2 (mx) r hr
  have M := Lib.hid m0
  have l : ∀ p n c q m d w, Sl w p n c X → Sl w q m d Y → Calls Tryz.prog 155 #[.slice p n c, .slice q m d] w fun e w' => e = .returned (.bool false) ∧ Below w.heap.size w w' :=
    fun p n c q m d w h1 h2 => less_sl h1 h2 I.lX I.lY false (by first | exact decide_eq_true hlt | exact decide_eq_false hlt)
  have L := Lib.hid l
  clear hr j m0 l hlt
  go_enter Tryz.func104, Tryz.ntmps104
  cases b1 with
  | false =>
    clear hn
    cases mx <;> (go_wp2_with (first | (go_at_call 132; first | (with_reducible refine (chain hb (I.br1 _)).mono ?_; clear hb; rintro e w1 ⟨rfl, hb⟩) | (with_reducible refine (chain hb (I.br2 _)).mono ?_; clear hb; rintro e w1 ⟨rfl, hb⟩)) | (go_at_call 71; first | (with_reducible refine (chain hb (I.sp1 _)).mono ?_; clear hb; rintro e w1 ⟨rfl, hb⟩) | (with_reducible refine (chain hb (I.sp2 _)).mono ?_; clear hb; rintro e w1 ⟨rfl, hb⟩)) | (go_at_call 134; first | (with_reducible refine (chainR hb (I.tk1 _)).mono ?_; clear hb; rintro e w1 ⟨p, n, c, rfl, hp, -, hb⟩) | (with_reducible refine (chainR hb (I.tk2 _)).mono ?_; clear hb; rintro e w2 ⟨q, m, d, rfl, hq, hb1, hb⟩; replace hp := hp.below hb1; clear hb1)) | (go_at_call 135; refine (chainR hb (J.out _ _ _ _ _ _ _ hp hq)).mono ?_; clear hb hp hq; rintro e w3 ⟨o, l, f, rfl, ho, -, hb⟩) | (go_at_call 155; refine (chain2 hb (L.out _ _ _ _ _ _ _ hp hq)).mono ?_; clear hb; rintro e w4 ⟨rfl, hb1, hb⟩; replace hp := hp.below hb1; replace hq := hq.below hb1; clear hb1) | (go_at_call 136; refine (chain hb (M.out _ _ _ _ (E.below hb) ho)).mono ?_; clear hb; rintro e w5 ⟨rfl, hb⟩)); go_ret; exact ⟨rfl, hb⟩)
  | true =>
    cases b2 with
    | true => exact absurd hn (by decide)
    | false =>
      clear hn
      cases mx <;> (go_wp2_with (first | (go_at_call 132; first | (with_reducible refine (chain hb (I.br1 _)).mono ?_; clear hb; rintro e w1 ⟨rfl, hb⟩) | (with_reducible refine (chain hb (I.br2 _)).mono ?_; clear hb; rintro e w1 ⟨rfl, hb⟩)) | (go_at_call 71; first | (with_reducible refine (chain hb (I.sp1 _)).mono ?_; clear hb; rintro e w1 ⟨rfl, hb⟩) | (with_reducible refine (chain hb (I.sp2 _)).mono ?_; clear hb; rintro e w1 ⟨rfl, hb⟩)) | (go_at_call 134; first | (with_reducible refine (chainR hb (I.tk1 _)).mono ?_; clear hb; rintro e w1 ⟨p, n, c, rfl, hp, -, hb⟩) | (with_reducible refine (chainR hb (I.tk2 _)).mono ?_; clear hb; rintro e w2 ⟨q, m, d, rfl, hq, hb1, hb⟩; replace hp := hp.below hb1; clear hb1)) | (go_at_call 135; refine (chainR hb (J.out _ _ _ _ _ _ _ hp hq)).mono ?_; clear hb hp hq; rintro e w3 ⟨o, l, f, rfl, ho, -, hb⟩) | (go_at_call 155; refine (chain2 hb (L.out _ _ _ _ _ _ _ hp hq)).mono ?_; clear hb; rintro e w4 ⟨rfl, hb1, hb⟩; replace hp := hp.below hb1; replace hq := hq.below hb1; clear hb1) | (go_at_call 136; refine (chain hb (M.out _ _ _ _ (E.below hb) ho)).mono ?_; clear hb; rintro e w5 ⟨rfl, hb⟩)); go_ret; exact ⟨rfl, hb⟩)
end Go.Proofs.YtgllflfifbacnaaGreatDoor.Kl
/- Contracts: the reference's Add, Neg, Sub, Sign, Compare on the texts of integers. -/
namespace Go.Proofs.YtgllflfifbacnaaGreatDoor.Kl
open Go Go.RowKit

theorem magB_dlen (x : Int) : (magB (itoaB x)).size = dlen x := by rw [magB_itoa, strOf_size]; rfl
theorem magB_dig (x : Int) : (magB (itoaB x)).data.toList.all isDig = true := by rw [magB_itoa]; exact List.all_eq_true.2 (fun c hc => List.all_eq_true.1 (decDigits_dig x.natAbs) c hc)
theorem magB_val (x : Int) : val (magB (itoaB x)).data.toList = x.natAbs := by rw [magB_itoa]; exact val_decDigits _
theorem neg_itoaB (x : Int) : neg (itoaB x).data.toList = decide (x < 0) := by rw [itoaB_data, neg_itoa]
theorem brief_any (x : Int) (h : dlen x ≤ 100000) : ∃ v b, (b = true → dlen x ≤ 17) ∧ ∀ w, Calls Tryz.prog 132 #[.string (itoaB x)] w fun e w' => e = .returned (.tuple #[.int .i64 v, .bool b]) ∧ Below w.heap.size w w' := by
  by_cases hs : dlen x ≤ 17
  · exact ⟨x, true, fun _ => hs, fun w => brief_short x w hs⟩
  · exact ⟨0, false, fun h => by simp at h, fun w => brief_long x w (by omega) h⟩
theorem take_itoa (x : Int) (w : World) (h : dlen x ≤ 100000) : Calls Tryz.prog 134 #[.string (magB (itoaB x))] w (RetP w (pcN x.natAbs)) := by
  have := take_any (magB (itoaB x)) w (by rw [magB_dlen]; exact h) (magB_dig x)
  rwa [magB_val] at this

set_option maxRecDepth 100000 in
set_option maxHeartbeats 1000000 in
theorem add_brief (x y : Int) (w : World) (E : Env w) (hx : dlen x ≤ 17) (hy : dlen y ≤ 17) :
    Calls Tryz.prog 104 #[.string (itoaB x), .string (itoaB y)] w fun e w' => e = .returned (.string (itoaB (x + y))) ∧ Below w.heap.size w w' := by
  have e1 : x.natAbs < 100000000000000000 := Nat.lt_of_lt_of_le (dig_lt _) (Nat.pow_le_pow_right (by decide) hx)
  have e2 : y.natAbs < 100000000000000000 := Nat.lt_of_lt_of_le (dig_lt _) (Nat.pow_le_pow_right (by decide) hy)
  have b1 : ∀ w, Calls Tryz.prog 132 #[.string (itoaB x)] w fun e w' => e = .returned (.tuple #[.int .i64 x, .bool true]) ∧ Below w.heap.size w w' := fun w => brief_short x w hx
  have b2 : ∀ w, Calls Tryz.prog 132 #[.string (itoaB y)] w fun e w' => e = .returned (.tuple #[.int .i64 y, .bool true]) ∧ Below w.heap.size w w' := fun w => brief_short y w hy
  have ew : IntKind.i64.wrap (x + y) = x + y := IntWalk.i64_in _ (by omega)
  have B1 := Lib.hid b1
  have B2 := Lib.hid b2
  have o1 : ∀ w, Env w → Calls Tryz.prog 20 #[.int .i64 (x + y)] w fun e w' => e = .returned (.string (itoaB (x + y))) ∧ Below w.heap.size w w' := fun w E => refOf_any (x + y) (by omega) (by omega) w E
  have O := Lib.hid o1
  obtain ⟨a, ha⟩ : ∃ a, itoaB x = a := ⟨_, rfl⟩
  obtain ⟨b, hb0⟩ : ∃ b, itoaB y = b := ⟨_, rfl⟩
  rw [ha] at B1 ⊢
  rw [hb0] at B2 ⊢
  clear ha hb0 b1 b2 o1 e1 e2
  have hb := Below.refl w.heap.size w
  go_enter Tryz.func104, Tryz.ntmps104
  go_wp2_with (first
    | (go_at_call 132; first
      | (with_reducible refine (chain hb (B1.out _)).mono ?_; clear hb; rintro e w1 ⟨rfl, hb⟩)
      | (with_reducible refine (chain hb (B2.out _)).mono ?_; clear hb; rintro e w1 ⟨rfl, hb⟩))
    | (go_at_call 20; (try rw [ew]); refine (chain hb (O.out _ (E.below hb))).mono ?_; clear hb; rintro e w1 ⟨rfl, hb⟩))
  go_ret
  exact ⟨rfl, hb⟩
/-- The reference's sum. -/
theorem refAdd_any (x y : Int) (w : World) (E : Env w) (hx : dlen x ≤ 99999) (hy : dlen y ≤ 99999) :
    Calls Tryz.prog 104 #[.string (itoaB x), .string (itoaB y)] w fun e w' => e = .returned (.string (itoaB (x + y))) ∧ Below w.heap.size w w' := by
  by_cases hs : dlen x ≤ 17 ∧ dlen y ≤ 17
  · exact add_brief x y w E hs.1 hs.2
  obtain ⟨v1, b1, hb1, B1⟩ := brief_any x (by omega)
  obtain ⟨v2, b2, hb2, B2⟩ := brief_any y (by omega)
  have hn : (b1 && b2) = false := by
    rcases Bool.eq_false_or_eq_true (b1 && b2) with h | h
    · rw [Bool.and_eq_true] at h; exact absurd ⟨hb1 h.1, hb2 h.2⟩ hs
    · exact h
  have S : ∀ V, V ≤ x.natAbs + y.natAbs → (pcN V).length ≤ 100000 ∧ (Lib.decDigits V).length ≤ 1000000 := fun V hV => by
    have h := dec_add_len 99999 x.natAbs y.natAbs V (by omega) hx hy hV
    exact ⟨pcN_len_dec V 100000 h, by omega⟩
  have I : AddIn (itoaB x) (itoaB y) (magB (itoaB x)) (magB (itoaB y)) v1 v2 b1 b2 (decide (x < 0)) (decide (y < 0)) x.natAbs y.natAbs :=
    ⟨B1, B2, fun w => split_any _ w _ (neg_itoaB x), fun w => split_any _ w _ (neg_itoaB y), fun w => take_itoa x w (by omega), fun w => take_itoa y w (by omega),
      (S _ (by omega)).1, (S _ (by omega)).1, S⟩
  by_cases hxy : decide (x < 0) = decide (y < 0)
  · refine add_same I hxy hn _ ?_ w E
    rw [sgn_of (x + y) _ (x.natAbs + y.natAbs) ?_ ?_]
    · rfl
    · rw [decide_eq_decide] at hxy; omega
    · intro h0; rw [decide_eq_decide] at hxy ⊢; omega
  · have hne : decide (y < 0) = !decide (x < 0) := by cases hp : decide (x < 0) <;> cases hq : decide (y < 0) <;> simp_all
    have hsg : (x < 0 ∧ ¬ y < 0) ∨ (¬ x < 0 ∧ y < 0) := by
      rw [decide_eq_decide] at hxy; omega
    by_cases hlt : x.natAbs < y.natAbs
    · refine add_less I hne hn hlt _ ?_ w E
      rw [sgn_of (x + y) _ (y.natAbs - x.natAbs) ?_ ?_]
      · rfl
      · omega
      · intro h0; rw [← hne, decide_eq_decide]; omega
    · refine add_more I hne hn hlt _ ?_ w E
      rw [sgn_of (x + y) _ (x.natAbs - y.natAbs) ?_ ?_]
      · rfl
      · omega
      · intro h0; rw [decide_eq_decide]; omega
end Go.Proofs.YtgllflfifbacnaaGreatDoor.Kl
/- Contracts: the reference's Neg, Sub, Sign, Compare on the texts of integers. -/
namespace Go.Proofs.YtgllflfifbacnaaGreatDoor.Kl
open Go Go.RowKit

theorem dat_inj {a b : ByteArray} (h : a.data.toList = b.data.toList) : a = b := by
  cases a; cases b; congr; exact Array.toList_inj.1 h
theorem itoa_zero : itoaB 0 = ⟨#[48]⟩ := by unfold itoaB; rw [show Lib.itoa 0 = [48] by rw [itoa_nat _ (by decide)]; show Lib.decDigits 0 = _; rw [Lib.decDigits]; rfl]; rfl
theorem itoa_inj {x y : Int} (h : itoaB x = itoaB y) : x = y := by
  have hl : Lib.itoa x = Lib.itoa y := by rw [← itoaB_data, ← itoaB_data, h]
  have h1 := neg_itoa x
  have h2 := val_decDigits x.natAbs
  have h3 := val_decDigits y.natAbs
  rw [← mag_itoa] at h2 h3
  rw [hl] at h1 h2
  rw [neg_itoa] at h1
  rw [h3] at h2
  rw [decide_eq_decide] at h1
  omega
theorem itoa_eq_zero (x : Int) : itoaB x = ⟨#[48]⟩ ↔ x = 0 := by
  rw [← itoa_zero]; exact ⟨itoa_inj, fun h => by rw [h]⟩

set_option maxRecDepth 100000 in
set_option maxHeartbeats 1000000 in
theorem refSign_any (x : Int) (w : World) : Calls Tryz.prog 79 #[.string (itoaB x)] w fun e w' => e = .returned (.int .i64 x.sign) ∧ Below w.heap.size w w' := by
  have s1 : ∀ w, Calls Tryz.prog 71 #[.string (itoaB x)] w fun e w' => e = .returned (.tuple #[.bool (decide (x < 0)), .string (magB (itoaB x))]) ∧ Below w.heap.size w w' := fun w => split_any _ w _ (neg_itoaB x)
  have hz : ((itoaB x).toList == [48]) = decide (x = 0) := by
    rw [Bool.eq_iff_iff, beq_iff_eq, decide_eq_true_iff, ← itoa_eq_zero, Lib.toList_data]
    exact ⟨fun h => dat_inj h, fun h => by rw [h]⟩
  obtain ⟨m, hm⟩ : ∃ m, magB (itoaB x) = m := ⟨_, rfl⟩
  obtain ⟨a, ha⟩ : ∃ a, itoaB x = a := ⟨_, rfl⟩
  rw [hm, ha] at s1
  rw [ha] at hz ⊢
  have S1 := Lib.hid s1
  clear s1 hm ha
  have hb := Below.refl w.heap.size w
  go_enter Tryz.func79, Tryz.ntmps79
  rcases Int.lt_trichotomy x 0 with h | h | h
  · have e : x.sign = -1 := Int.sign_eq_neg_one_of_neg h
    rw [e]
    rw [decide_eq_true h] at S1
    clear e h hz
    go_wp2_with (go_at_call 71; refine (chain hb (S1.out _)).mono ?_; clear hb; rintro e w1 ⟨rfl, hb⟩)
    go_ret
    exact ⟨rfl, hb⟩
  · subst h
    rw [decide_eq_false (by decide)] at S1
    rw [decide_eq_true rfl] at hz
    go_wp2_with (go_at_call 71; refine (chain hb (S1.out _)).mono ?_; clear hb; rintro e w1 ⟨rfl, hb⟩)
    go_ret
    exact ⟨rfl, hb⟩
  · have e : x.sign = 1 := Int.sign_eq_one_of_pos h
    rw [e]
    rw [decide_eq_false (by omega)] at S1
    rw [decide_eq_false (by omega)] at hz
    clear e h
    go_wp2_with (go_at_call 71; refine (chain hb (S1.out _)).mono ?_; clear hb; rintro e w1 ⟨rfl, hb⟩)
    go_ret
    exact ⟨rfl, hb⟩
set_option maxRecDepth 100000 in
set_option maxHeartbeats 1000000 in
theorem refNeg_any (x : Int) (w : World) (hl : dlen x ≤ 100000) : Calls Tryz.prog 80 #[.string (itoaB x)] w fun e w' => e = .returned (.string (itoaB (-x))) ∧ Below w.heap.size w w' := by
  have s1 : ∀ w, Calls Tryz.prog 71 #[.string (itoaB x)] w fun e w' => e = .returned (.tuple #[.bool (decide (x < 0)), .string (magB (itoaB x))]) ∧ Below w.heap.size w w' := fun w => split_any _ w _ (neg_itoaB x)
  have hz : ((itoaB x).toList == [48]) = decide (x = 0) := by
    rw [Bool.eq_iff_iff, beq_iff_eq, decide_eq_true_iff, ← itoa_eq_zero, Lib.toList_data]
    exact ⟨fun h => dat_inj h, fun h => by rw [h]⟩
  have hms : (magB (itoaB x)).size ≤ 100000 := by rw [magB_dlen]; exact hl
  have hr0 : x ≤ 0 → magB (itoaB x) = itoaB (-x) := fun h => by
    rw [magB_itoa]; unfold itoaB
    rw [itoa_nat (-x) (by omega), show (-x).toNat = x.natAbs by omega]
  have hr1 : 0 < x → (⟨#[45]⟩ : ByteArray) ++ magB (itoaB x) = itoaB (-x) := fun h => by
    rw [magB_itoa, cat_minus]; unfold itoaB
    rw [← sgn_of (-x) true x.natAbs (by omega) (fun _ => by rw [decide_eq_true (by omega)])]
    unfold sgn; rw [decide_eq_true (by omega : 0 < x.natAbs)]; rfl
  obtain ⟨r, hr⟩ : ∃ r, itoaB (-x) = r := ⟨_, rfl⟩
  obtain ⟨m, hm⟩ : ∃ m, magB (itoaB x) = m := ⟨_, rfl⟩
  obtain ⟨a, ha⟩ : ∃ a, itoaB x = a := ⟨_, rfl⟩
  rw [hm, hr] at hr0 hr1
  rw [hm] at hms
  rw [hm, ha] at s1
  rw [ha] at hz
  rw [ha, hr]
  have S1 := Lib.hid s1
  clear s1 hm ha hr hl
  have hb := Below.refl w.heap.size w
  rcases Int.lt_trichotomy x 0 with h | h | h
  · have R := Lib.hid (hr0 (by omega))
    rw [decide_eq_true h] at S1
    rw [decide_eq_false (by omega)] at hz
    clear h hr0 hr1
    go_enter Tryz.func80, Tryz.ntmps80
    go_wp2_with (go_at_call 71; refine (chain hb (S1.out _)).mono ?_; clear hb; rintro e w1 ⟨rfl, hb⟩)
    go_ret
    exact ⟨retS R.out, hb⟩
  · have R := Lib.hid (hr0 (by omega))
    rw [decide_eq_false (by omega)] at S1
    rw [decide_eq_true h] at hz
    clear h hr0 hr1
    go_enter Tryz.func80, Tryz.ntmps80
    go_wp2_with (go_at_call 71; refine (chain hb (S1.out _)).mono ?_; clear hb; rintro e w1 ⟨rfl, hb⟩)
    go_ret
    exact ⟨retS R.out, hb⟩
  · have R := Lib.hid (hr1 h)
    rw [decide_eq_false (by omega)] at S1
    rw [decide_eq_false (by omega)] at hz
    clear h hr0 hr1
    go_enter Tryz.func80, Tryz.ntmps80
    go_wp2_with (go_at_call 71; refine (chain hb (S1.out _)).mono ?_; clear hb; rintro e w1 ⟨rfl, hb⟩)
    go_ret
    exact ⟨retS R.out, hb⟩
theorem dlen_neg (x : Int) : dlen (-x) = dlen x := by unfold dlen; rw [Int.natAbs_neg]
set_option maxRecDepth 100000 in
set_option maxHeartbeats 1000000 in
theorem refSub_any (x y : Int) (w : World) (E : Env w) (hx : dlen x ≤ 99999) (hy : dlen y ≤ 99999) :
    Calls Tryz.prog 115 #[.string (itoaB x), .string (itoaB y)] w fun e w' => e = .returned (.string (itoaB (x - y))) ∧ Below w.heap.size w w' := by
  have n1 : ∀ w, Calls Tryz.prog 80 #[.string (itoaB y)] w fun e w' => e = .returned (.string (itoaB (-y))) ∧ Below w.heap.size w w' := fun w => refNeg_any y w (by omega)
  have a1 : ∀ w, Env w → Calls Tryz.prog 104 #[.string (itoaB x), .string (itoaB (-y))] w fun e w' => e = .returned (.string (itoaB (x - y))) ∧ Below w.heap.size w w' := fun w E => by
    have := refAdd_any x (-y) w E hx (by rw [dlen_neg]; exact hy)
    rwa [← Int.sub_eq_add_neg] at this
  obtain ⟨r, hr⟩ : ∃ r, itoaB (x - y) = r := ⟨_, rfl⟩
  obtain ⟨c, hc⟩ : ∃ c, itoaB (-y) = c := ⟨_, rfl⟩
  obtain ⟨a, ha⟩ : ∃ a, itoaB x = a := ⟨_, rfl⟩
  obtain ⟨b, hb0⟩ : ∃ b, itoaB y = b := ⟨_, rfl⟩
  rw [hb0, hc] at n1
  rw [ha, hc, hr] at a1
  rw [ha, hb0, hr]
  have N1 := Lib.hid n1
  have A1 := Lib.hid a1
  clear n1 a1 hr hc ha hb0 hx hy
  have hb := Below.refl w.heap.size w
  go_enter Tryz.func115, Tryz.ntmps115
  go_wp2_with (first
    | (go_at_call 80; refine (chain hb (N1.out _)).mono ?_; clear hb; rintro e w1 ⟨rfl, hb⟩)
    | (go_at_call 104; refine (chain hb (A1.out _ (E.below hb))).mono ?_; clear hb; rintro e w1 ⟨rfl, hb⟩))
  go_ret
  exact ⟨rfl, hb⟩
set_option maxRecDepth 100000 in
set_option maxHeartbeats 1000000 in
theorem refCompare_any (x y : Int) (w : World) (E : Env w) (hx : dlen x ≤ 99999) (hy : dlen y ≤ 99999) :
    Calls Tryz.prog 62 #[.string (itoaB x), .string (itoaB y)] w fun e w' => e = .returned (.int .i64 (x - y).sign) ∧ Below w.heap.size w w' := by
  have n1 : ∀ w, Env w → Calls Tryz.prog 115 #[.string (itoaB x), .string (itoaB y)] w fun e w' => e = .returned (.string (itoaB (x - y))) ∧ Below w.heap.size w w' := fun w E => refSub_any x y w E hx hy
  have a1 : ∀ w, Calls Tryz.prog 79 #[.string (itoaB (x - y))] w fun e w' => e = .returned (.int .i64 (x - y).sign) ∧ Below w.heap.size w w' := fun w => refSign_any (x - y) w
  obtain ⟨z, hz⟩ : ∃ z, (x - y).sign = z := ⟨_, rfl⟩
  obtain ⟨r, hr⟩ : ∃ r, itoaB (x - y) = r := ⟨_, rfl⟩
  obtain ⟨a, ha⟩ : ∃ a, itoaB x = a := ⟨_, rfl⟩
  obtain ⟨b, hb0⟩ : ∃ b, itoaB y = b := ⟨_, rfl⟩
  rw [ha, hb0, hr] at n1
  rw [hr, hz] at a1
  rw [ha, hb0, hz]
  have N1 := Lib.hid n1
  have A1 := Lib.hid a1
  clear n1 a1 hr hz ha hb0 hx hy
  have hb := Below.refl w.heap.size w
  go_enter Tryz.func62, Tryz.ntmps62
  go_wp2_with (first
    | (go_at_call 115; refine (chain hb (N1.out _ (E.below hb))).mono ?_; clear hb; rintro e w1 ⟨rfl, hb⟩)
    | (go_at_call 79; refine (chain hb (A1.out _)).mono ?_; clear hb; rintro e w1 ⟨rfl, hb⟩))
  go_ret
  exact ⟨rfl, hb⟩
end Go.Proofs.YtgllflfifbacnaaGreatDoor.Kl
/- Contracts: integer's Sign on the texts of integers. -/
namespace Go.Proofs.YtgllflfifbacnaaGreatDoor.Kl
open Go Go.RowKit

theorem itoa_pos_size (x : Int) : 0 < (itoaB x).size := by
  unfold itoaB; rw [strOf_size]
  unfold Lib.itoa; split
  · simp
  · exact List.length_pos_iff.2 (decDigits_ne _)
set_option maxRecDepth 100000 in
set_option maxHeartbeats 1000000 in
theorem sign_any (x : Int) (w : World) : Calls Tryz.prog 73 #[.string (itoaB x)] w fun e w' => e = .returned (.int .i64 x.sign) ∧ Below w.heap.size w w' := by
  have hz : ((itoaB x).toList == [48]) = decide (x = 0) := by
    rw [Bool.eq_iff_iff, beq_iff_eq, decide_eq_true_iff, ← itoa_eq_zero, Lib.toList_data]
    exact ⟨fun h => dat_inj h, fun h => by rw [h]⟩
  have h0 := itoa_pos_size x
  have he : ((itoaB x).toList == []) = false := by
    rw [beq_eq_false_iff_ne, Lib.toList_data]
    intro h; rw [size_len, h] at h0; exact absurd h0 (by decide)
  have hn := neg_itoaB x
  obtain ⟨a, ha⟩ : ∃ a, itoaB x = a := ⟨_, rfl⟩
  rw [ha] at hz he h0 hn ⊢
  rw [neg_of a h0] at hn
  clear ha
  have h0' : (0 : Int) < (a.size : Int) := by omega
  rcases Int.lt_trichotomy x 0 with h | h | h
  · have e : x.sign = -1 := Int.sign_eq_neg_one_of_neg h
    rw [e]
    have h2 : ((a[0].toNat : Int) == 45) = true := byte_eq (d := 45) rfl (by rw [decide_eq_true h] at hn; simpa using hn)
    rw [decide_eq_false (by omega)] at hz
    clear e h hn
    go_enter Tryz.func73, Tryz.ntmps73
    go_wp2
    go_ret
    exact ⟨rfl, Below.refl _ _⟩
  · have e : x.sign = 0 := by rw [h]; rfl
    rw [e]
    rw [decide_eq_true h] at hz
    clear e h hn
    go_enter Tryz.func73, Tryz.ntmps73
    go_wp2
    go_ret
    exact ⟨rfl, Below.refl _ _⟩
  · have e : x.sign = 1 := Int.sign_eq_one_of_pos h
    rw [e]
    have h2 : ((a[0].toNat : Int) == 45) = false := byte_ne (d := 45) rfl (by rw [decide_eq_false (by omega)] at hn; simpa using hn)
    rw [decide_eq_false (by omega)] at hz
    clear e h hn
    go_enter Tryz.func73, Tryz.ntmps73
    go_wp2
    go_ret
    exact ⟨rfl, Below.refl _ _⟩
end Go.Proofs.YtgllflfifbacnaaGreatDoor.Kl
/- Contracts: integer's Neg on the texts of integers. -/
namespace Go.Proofs.YtgllflfifbacnaaGreatDoor.Kl
open Go Go.RowKit

set_option maxRecDepth 100000 in
set_option maxHeartbeats 1000000 in
/-- The program's opposite. -/
theorem neg_any (x : Int) (w : World) (hl : dlen x ≤ 100000) : Calls Tryz.prog 74 #[.string (itoaB x)] w fun e w' => e = .returned (.string (itoaB (-x))) ∧ Below w.heap.size w w' := by
  have s1 : ∀ w, Calls Tryz.prog 73 #[.string (itoaB x)] w fun e w' => e = .returned (.int .i64 x.sign) ∧ Below w.heap.size w w' := fun w => sign_any x w
  have hsz : (itoaB x).size ≤ 100001 := itoaB_size x hl
  have h0 := itoa_pos_size x
  have hr0 : x < 0 → (itoaB x).extract 1 (itoaB x).size = itoaB (-x) := fun h => by
    rw [magB_minus _ (by rw [neg_itoaB, decide_eq_true h]), magB_itoa]; unfold itoaB
    rw [itoa_nat (-x) (by omega), show (-x).toNat = x.natAbs by omega]
  have hr1 : 0 < x → (⟨#[45]⟩ : ByteArray) ++ itoaB x = itoaB (-x) := fun h => by
    rw [magB_plus (itoaB x) (by rw [neg_itoaB, decide_eq_false (by omega)]), magB_itoa, cat_minus]; unfold itoaB
    rw [← sgn_of (-x) true x.natAbs (by omega) (fun _ => by rw [decide_eq_true (by omega)])]
    unfold sgn; rw [decide_eq_true (by omega : 0 < x.natAbs)]; rfl
  have hr2 : x = 0 → (⟨#[48]⟩ : ByteArray) = itoaB (-x) := fun h => by rw [h]; exact itoa_zero.symm
  obtain ⟨r, hr⟩ : ∃ r, itoaB (-x) = r := ⟨_, rfl⟩
  obtain ⟨a, ha⟩ : ∃ a, itoaB x = a := ⟨_, rfl⟩
  rw [hr] at hr0 hr1 hr2
  rw [ha] at s1 hsz h0 hr0 hr1
  rw [ha, hr]
  clear ha hr hl
  have h0' : (0 : Int) < (a.size : Int) := by omega
  have hb := Below.refl w.heap.size w
  rcases Int.lt_trichotomy x 0 with h | h | h
  · have R := Lib.hid (hr0 h)
    rw [show x.sign = -1 from Int.sign_eq_neg_one_of_neg h] at s1
    have S1 := Lib.hid s1
    clear h hr0 hr1 hr2 s1
    go_enter Tryz.func74, Tryz.ntmps74
    go_wp2_with (go_at_call 73; refine (chain hb (S1.out _)).mono ?_; clear hb; rintro e w1 ⟨rfl, hb⟩)
    go_ret
    exact ⟨retS R.out, hb⟩
  · have R := Lib.hid (hr2 h)
    rw [show x.sign = 0 by rw [h]; rfl] at s1
    have S1 := Lib.hid s1
    clear h hr0 hr1 hr2 s1
    go_enter Tryz.func74, Tryz.ntmps74
    go_wp2_with (go_at_call 73; refine (chain hb (S1.out _)).mono ?_; clear hb; rintro e w1 ⟨rfl, hb⟩)
    go_ret
    exact ⟨retS R.out, hb⟩
  · have R := Lib.hid (hr1 h)
    rw [show x.sign = 1 from Int.sign_eq_one_of_pos h] at s1
    have S1 := Lib.hid s1
    clear h hr0 hr1 hr2 s1
    go_enter Tryz.func74, Tryz.ntmps74
    go_wp2_with (go_at_call 73; refine (chain hb (S1.out _)).mono ?_; clear hb; rintro e w1 ⟨rfl, hb⟩)
    go_ret
    exact ⟨retS R.out, hb⟩
end Go.Proofs.YtgllflfifbacnaaGreatDoor.Kl
/- The order of integers by their texts: length, then bytes; and cmp.Or of two. -/
namespace Go.Proofs.YtgllflfifbacnaaGreatDoor.Kl
open Go Go.RowKit

theorem cmp_digs : ∀ (l m : List UInt8), l.length = m.length → l.all isDig = true → m.all isDig = true → Lib.compareBytes l m = Lib.compareInt (val l) (val m)
  | [], [], _, _, _ => rfl
  | [], _ :: _, h, _, _ => by simp at h
  | _ :: _, [], h, _, _ => by simp at h
  | a :: al, b :: bl, h, ha, hb => by
    rw [List.all_cons, Bool.and_eq_true] at ha hb
    have hl : al.length = bl.length := by simpa using h
    have ih := cmp_digs al bl hl ha.2 hb.2
    have h1 := val_lt al ha.2
    have h2 := val_lt bl hb.2
    rw [← hl] at h2
    have da := ha.1
    have db := hb.1
    unfold isDig at da db
    rw [Bool.and_eq_true, decide_eq_true_iff, decide_eq_true_iff] at da db
    show (if a < b then (-1 : Int) else if b < a then 1 else Lib.compareBytes al bl) = _
    rw [val_cons, val_cons, ← hl]
    obtain ⟨P, hP⟩ : ∃ P, 10 ^ al.length = P := ⟨_, rfl⟩
    rw [hP] at h1 h2 ⊢
    have key : ∀ u v : Nat, u < v → u * P + P ≤ v * P := fun u v huv => by
      have := Nat.mul_le_mul_right P (show u + 1 ≤ v by omega)
      rwa [Nat.add_mul, Nat.one_mul] at this
    unfold Lib.compareInt
    by_cases c1 : a < b
    · have c1' : a.toNat < b.toNat := UInt8.lt_iff_toNat_lt.1 c1
      have := key (a.toNat - 48) (b.toNat - 48) (by omega)
      rw [if_pos c1, if_pos (by omega)]
    · by_cases c2 : b < a
      · have c2' : b.toNat < a.toNat := UInt8.lt_iff_toNat_lt.1 c2
        have := key (b.toNat - 48) (a.toNat - 48) (by omega)
        rw [if_neg c1, if_pos c2, if_neg (by omega), if_pos (by omega)]
      · have e : a = b := UInt8.toNat.inj (by
          have h1 : ¬ a.toNat < b.toNat := fun h => c1 (UInt8.lt_iff_toNat_lt.2 h)
          have h2 : ¬ b.toNat < a.toNat := fun h => c2 (UInt8.lt_iff_toNat_lt.2 h)
          omega)
        rw [if_neg c1, if_neg c2, ih, e]
        unfold Lib.compareInt
        by_cases d1 : val al < val bl
        · rw [if_pos (by omega), if_pos (by omega)]
        · by_cases d2 : val bl < val al
          · rw [if_neg (by omega), if_pos (by omega), if_neg (by omega), if_pos (by omega)]
          · rw [if_neg (by omega), if_neg (by omega), if_neg (by omega), if_neg (by omega)]
def orI (x y : Int) : Int := if x = 0 then y else x
set_option maxRecDepth 100000 in
set_option maxHeartbeats 1000000 in
theorem or_two (b o c : Nat) (x y : Int) (w : World) (h0 : w.cell? ⟨b, o, none⟩ = some (.int .i64 x)) (h1 : w.cell? ⟨b, o + 1, none⟩ = some (.int .i64 y)) :
    Calls Tryz.prog 120 #[.slice (some ⟨b, o, none⟩) 2 c] w fun e w' => e = .returned (.int .i64 (orI x y)) ∧ Below w.heap.size w w' := by
  unfold orI
  by_cases hx : x = 0
  · rw [if_pos hx]
    subst hx
    by_cases hy : y = 0
    · subst hy
      go_enter Tryz.func120, Tryz.ntmps120
      go_wp2
      refine wp_loop_rounds 3 ?_
      rw [rounds_succ]
      go_wp2
      rw [rounds_succ]
      go_wp2
      rw [rounds_succ]
      go_wp2
      go_ret
      exact ⟨rfl, Below.refl _ _⟩
    · have hyb : (y == 0) = false := by simpa using hy
      go_enter Tryz.func120, Tryz.ntmps120
      go_wp2
      refine wp_loop_rounds 2 ?_
      rw [rounds_succ]
      go_wp2
      rw [rounds_succ]
      go_wp2
      go_ret
      exact ⟨rfl, Below.refl _ _⟩
  · rw [if_neg hx]
    have hxb : (x == 0) = false := by simpa using hx
    go_enter Tryz.func120, Tryz.ntmps120
    go_wp2
    refine wp_loop_rounds 1 ?_
    rw [rounds_succ]
    go_wp2
    go_ret
    exact ⟨rfl, Below.refl _ _⟩
end Go.Proofs.YtgllflfifbacnaaGreatDoor.Kl
/- Contract: integer's Compare on the texts of integers. -/
namespace Go.Proofs.YtgllflfifbacnaaGreatDoor.Kl
open Go Go.RowKit

theorem mag_cmp (X Y : Nat) : orI (Lib.compareInt ((Lib.decDigits X).length : Nat) ((Lib.decDigits Y).length : Nat)) (Lib.compareBytes (Lib.decDigits X) (Lib.decDigits Y)) = Lib.compareInt X Y := by
  have key : ∀ X Y : Nat, (Lib.decDigits X).length < (Lib.decDigits Y).length → X < Y := fun X Y h => by
    refine Nat.lt_of_not_le fun h2 => ?_
    have h3 := dec_len_le Y (Lib.decDigits X).length (Nat.lt_of_le_of_lt h2 (dig_lt X)) (List.length_pos_iff.2 (decDigits_ne _))
    omega
  unfold orI
  rcases Nat.lt_trichotomy (Lib.decDigits X).length (Lib.decDigits Y).length with h | h | h
  · have := key X Y h
    unfold Lib.compareInt
    rw [if_pos (by omega : ((Lib.decDigits X).length : Int) < ((Lib.decDigits Y).length : Int)), if_neg (by decide), if_pos (by omega)]
  · rw [cmp_digs _ _ h (decDigits_dig X) (decDigits_dig Y), val_decDigits, val_decDigits]
    unfold Lib.compareInt
    rw [if_neg (by omega : ¬ ((Lib.decDigits X).length : Int) < ((Lib.decDigits Y).length : Int)), if_neg (by omega : ¬ ((Lib.decDigits X).length : Int) > ((Lib.decDigits Y).length : Int)), if_pos rfl]
  · have := key Y X h
    unfold Lib.compareInt
    rw [if_neg (by omega : ¬ ((Lib.decDigits X).length : Int) < ((Lib.decDigits Y).length : Int)), if_pos (by omega : ((Lib.decDigits X).length : Int) > ((Lib.decDigits Y).length : Int)), if_neg (by decide), if_neg (by omega), if_pos (by omega)]

theorem or_built (l z o : Int) (h : orI l z = o) (w : World) :
    Calls Tryz.prog 120 #[.slice (some ⟨w.heap.size, 0, none⟩) 2 2] (w.alloc (Obj.cells #[.int .i64 l, .int .i64 z] 3)) fun e w' => e = .returned (.int .i64 o) ∧ Below w.heap.size w w' := by
  subst h
  exact chain ((Below.refl w.heap.size w).alloc (Nat.le_refl _) _) (or_two w.heap.size 0 2 l z _ (by rw [World.cell?_alloc_new]; rfl) (by rw [World.cell?_alloc_new]; rfl))
set_option maxRecDepth 100000 in
set_option maxHeartbeats 2000000 in
theorem compare_same (a b : ByteArray) (l z s o : Int) (w : World)
    (s1 : ∀ w, Calls Tryz.prog 73 #[.string a] w fun e w' => e = .returned (.int .i64 s) ∧ Below w.heap.size w w')
    (s2 : ∀ w, Calls Tryz.prog 73 #[.string b] w fun e w' => e = .returned (.int .i64 s) ∧ Below w.heap.size w w')
    (c1 : ∀ w, Calls Tryz.prog 100 #[.int .i64 a.size, .int .i64 b.size] w fun e w' => e = .returned (.int .i64 l) ∧ w' = w)
    (c2 : ∀ w, Calls Tryz.prog 121 #[.string a, .string b] w fun e w' => e = .returned (.int .i64 z) ∧ w' = w)
    (ho : orI l z = o) (hs : s = 1 ∨ s = 0 ∨ s = -1) (ho2 : o = 1 ∨ o = 0 ∨ o = -1) :
    Calls Tryz.prog 66 #[.string a, .string b] w fun e w' => e = .returned (.int .i64 (s * o)) ∧ Below w.heap.size w w' := by
  have c0 : ∀ w, Calls Tryz.prog 100 #[.int .i64 s, .int .i64 s] w fun e w' => e = .returned (.int .i64 0) ∧ w' = w := fun w => by
    have := Tryz.cmp_Compare_int s s w
    rwa [show Lib.compareInt s s = 0 by unfold Lib.compareInt; rw [if_neg (by omega), if_neg (by omega)]] at this
  have OR := Lib.hid (or_built l z o ho)
  have S1 := Lib.hid s1
  have S2 := Lib.hid s2
  have C0 := Lib.hid c0
  have C1 := Lib.hid c1
  have C2 := Lib.hid c2
  clear s1 s2 c0 c1 c2 ho
  have hb := Below.refl w.heap.size w
  rcases hs with rfl | rfl | rfl <;> rcases ho2 with rfl | rfl | rfl <;>
    (go_enter Tryz.func66, Tryz.ntmps66
     go_wp2_with (first | (go_at_call 73; first | (with_reducible refine (chain hb (S1.out _)).mono ?_; clear hb; rintro e w1 ⟨rfl, hb⟩) | (with_reducible refine (chain hb (S2.out _)).mono ?_; clear hb; rintro e w1 ⟨rfl, hb⟩)) | (go_at_call 100; first | (with_reducible refine (C0.out _).mono ?_; rintro e w2 ⟨rfl, rfl⟩) | (with_reducible refine (C1.out _).mono ?_; rintro e w2 ⟨rfl, rfl⟩)) | (go_at_call 121; refine (C2.out _).mono ?_; rintro e w2 ⟨rfl, rfl⟩) | (go_at_call 120; refine (OR.out _).mono ?_; rintro e w3 ⟨rfl, hb1⟩; replace hb := hb.trans (hb1.mono hb.size); clear hb1))
     go_ret
     exact ⟨rfl, hb⟩)
set_option maxRecDepth 100000 in
set_option maxHeartbeats 2000000 in
theorem compare_diff (a b : ByteArray) (s t : Int) (w : World)
    (s1 : ∀ w, Calls Tryz.prog 73 #[.string a] w fun e w' => e = .returned (.int .i64 s) ∧ Below w.heap.size w w')
    (s2 : ∀ w, Calls Tryz.prog 73 #[.string b] w fun e w' => e = .returned (.int .i64 t) ∧ Below w.heap.size w w')
    (o : Int) (ho : Lib.compareInt s t = o) (ho2 : o = 1 ∨ o = -1) :
    Calls Tryz.prog 66 #[.string a, .string b] w fun e w' => e = .returned (.int .i64 o) ∧ Below w.heap.size w w' := by
  have c0 : ∀ w, Calls Tryz.prog 100 #[.int .i64 s, .int .i64 t] w fun e w' => e = .returned (.int .i64 o) ∧ w' = w := fun w => by
    have := Tryz.cmp_Compare_int s t w
    rwa [ho] at this
  have S1 := Lib.hid s1
  have S2 := Lib.hid s2
  have C0 := Lib.hid c0
  clear s1 s2 c0 ho
  have hb := Below.refl w.heap.size w
  rcases ho2 with rfl | rfl <;>
    (go_enter Tryz.func66, Tryz.ntmps66
     go_wp2_with (first
      | (go_at_call 73; first
        | (with_reducible refine (chain hb (S1.out _)).mono ?_; clear hb; rintro e w1 ⟨rfl, hb⟩)
        | (with_reducible refine (chain hb (S2.out _)).mono ?_; clear hb; rintro e w1 ⟨rfl, hb⟩))
      | (go_at_call 100; refine (C0.out _).mono ?_; rintro e w2 ⟨rfl, rfl⟩))
     go_ret
     exact ⟨rfl, hb⟩)
theorem cmpInt_tri (x y : Int) : Lib.compareInt x y = 1 ∨ Lib.compareInt x y = 0 ∨ Lib.compareInt x y = -1 := by
  unfold Lib.compareInt; split
  · exact Or.inr (Or.inr rfl)
  · split
    · exact Or.inl rfl
    · exact Or.inr (Or.inl rfl)
theorem itoa_size (x : Int) : ((itoaB x).size : Int) = dlen x + (if x < 0 then 1 else 0) := by
  unfold itoaB; rw [strOf_size, itoa_len]; split <;> omega
theorem cmpInt_add (x y k : Int) : Lib.compareInt (x + k) (y + k) = Lib.compareInt x y := by
  unfold Lib.compareInt
  by_cases h : x < y
  · rw [if_pos h, if_pos (by omega)]
  · rw [if_neg h, if_neg (by omega)]
    by_cases h2 : x > y
    · rw [if_pos h2, if_pos (by omega)]
    · rw [if_neg h2, if_neg (by omega)]
theorem sign_cmp (x y : Int) : (x - y).sign = Lib.compareInt x y := by
  unfold Lib.compareInt
  rcases Int.lt_trichotomy x y with h | h | h
  · rw [if_pos h, Int.sign_eq_neg_one_of_neg (by omega)]
  · rw [if_neg (by omega), if_neg (by omega), h, Int.sub_self]; rfl
  · rw [if_neg (by omega), if_pos h, Int.sign_eq_one_of_pos (by omega)]
/-- The program's order. -/
theorem compare_any (x y : Int) (w : World) :
    Calls Tryz.prog 66 #[.string (itoaB x), .string (itoaB y)] w fun e w' => e = .returned (.int .i64 (x - y).sign) ∧ Below w.heap.size w w' := by
  rw [sign_cmp]
  by_cases hs : x.sign = y.sign
  · have hxy : (x < 0 ∧ y < 0) ∨ (x = 0 ∧ y = 0) ∨ (0 < x ∧ 0 < y) := by
      rcases Int.lt_trichotomy x 0 with h | h | h <;> rcases Int.lt_trichotomy y 0 with h2 | h2 | h2 <;>
        simp_all [Int.sign_eq_neg_one_of_neg, Int.sign_eq_one_of_pos]
    have hm := mag_cmp x.natAbs y.natAbs
    have hor : orI (Lib.compareInt (itoaB x).size (itoaB y).size) (Lib.compareBytes (itoaB x).data.toList (itoaB y).data.toList) = Lib.compareInt x.natAbs y.natAbs := by
      rw [← hm, itoa_size, itoa_size, itoaB_data, itoaB_data]
      rcases hxy with ⟨h1, h2⟩ | h
      · rw [if_pos h1, if_pos h2, cmpInt_add]
        unfold Lib.itoa
        rw [if_pos h1, if_pos h2]
        rfl
      · have h1 : ¬ x < 0 := by omega
        have h2 : ¬ y < 0 := by omega
        rw [if_neg h1, if_neg h2, cmpInt_add, itoa_nat x (by omega), itoa_nat y (by omega), show x.toNat = x.natAbs by omega, show y.toNat = y.natAbs by omega]
        rfl
    have := compare_same (itoaB x) (itoaB y) _ _ x.sign _ w (fun w => sign_any x w) (fun w => by rw [hs]; exact sign_any y w) (fun w => Tryz.cmp_Compare_int _ _ w) (fun w => Tryz.strings_Compare _ _ w) hor
      (by rcases Int.lt_trichotomy x 0 with h | h | h
          · exact Or.inr (Or.inr (Int.sign_eq_neg_one_of_neg h))
          · exact Or.inr (Or.inl (by rw [h]; rfl))
          · exact Or.inl (Int.sign_eq_one_of_pos h)) (cmpInt_tri _ _)
    have e : x.sign * Lib.compareInt x.natAbs y.natAbs = Lib.compareInt x y := by
      rcases hxy with ⟨h1, h2⟩ | ⟨h1, h2⟩ | ⟨h1, h2⟩
      · rw [Int.sign_eq_neg_one_of_neg h1]
        unfold Lib.compareInt
        rcases Int.lt_trichotomy x y with h | h | h
        · rw [if_neg (by omega), if_pos (by omega), if_pos h]; rfl
        · rw [if_neg (by omega), if_neg (by omega), if_neg (by omega), if_neg (by omega)]; rfl
        · rw [if_pos (by omega), if_neg (by omega), if_pos h]; rfl
      · rw [h1, h2]; rfl
      · rw [Int.sign_eq_one_of_pos h1, show ((x.natAbs : Nat) : Int) = x by omega, show ((y.natAbs : Nat) : Int) = y by omega, Int.one_mul]
    rwa [e] at this
  · have e : Lib.compareInt x.sign y.sign = Lib.compareInt x y ∧ (Lib.compareInt x y = 1 ∨ Lib.compareInt x y = -1) := by
      have key : ∀ z : Int, (z < 0 ∧ z.sign = -1) ∨ (z = 0 ∧ z.sign = 0) ∨ (0 < z ∧ z.sign = 1) := fun z => by
        rcases Int.lt_trichotomy z 0 with h | h | h
        · exact Or.inl ⟨h, Int.sign_eq_neg_one_of_neg h⟩
        · exact Or.inr (Or.inl ⟨h, by rw [h]; rfl⟩)
        · exact Or.inr (Or.inr ⟨h, Int.sign_eq_one_of_pos h⟩)
      have kx := key x
      have ky := key y
      by_cases h : x < y
      · have e1 : Lib.compareInt x y = -1 := by unfold Lib.compareInt; rw [if_pos h]
        have e2 : Lib.compareInt x.sign y.sign = -1 := by unfold Lib.compareInt; rw [if_pos (by omega)]
        exact ⟨by rw [e1, e2], Or.inr e1⟩
      · have hne : x ≠ y := fun h => hs (by rw [h])
        have e1 : Lib.compareInt x y = 1 := by unfold Lib.compareInt; rw [if_neg h, if_pos (by omega)]
        have e2 : Lib.compareInt x.sign y.sign = 1 := by unfold Lib.compareInt; rw [if_neg (by omega), if_pos (by omega)]
        exact ⟨by rw [e1, e2], Or.inl e1⟩
    exact compare_diff (itoaB x) (itoaB y) x.sign y.sign w (fun w => sign_any x w) (fun w => sign_any y w) _ e.1 e.2
set_option maxHeartbeats 1000000 in
/-- The program's magnitude. -/
theorem abs_any (x : Int) (w : World) :
    Calls Tryz.prog 95 #[.string (itoaB x)] w fun e w' => e = .returned (.string (itoaB x.natAbs)) ∧ Below w.heap.size w w' := by
  have e : magB (itoaB x) = itoaB x.natAbs := by
    rw [magB_itoa]; unfold itoaB; rw [itoa_nat _ (by omega)]; rfl
  rw [← e]
  obtain ⟨a, ha⟩ : ∃ a, itoaB x = a := ⟨_, rfl⟩
  rw [ha]
  clear e ha
  go_enter Tryz.func95, Tryz.ntmps95
  go_wp2_with (go_at_call 118; refine (magnitude_any _ _).mono ?_; rintro e w1 ⟨rfl, rfl⟩)
  go_ret
  exact ⟨rfl, Below.refl _ _⟩
end Go.Proofs.YtgllflfifbacnaaGreatDoor.Kl
/- Every canonical text is the text of an integer; the reference's Abs. -/
namespace Go.Proofs.YtgllflfifbacnaaGreatDoor.Kl
open Go Go.RowKit

theorem dig_unique : ∀ (l m : List UInt8), l.length = m.length → l.all isDig = true → m.all isDig = true → val l = val m → l = m
  | [], [], _, _, _, _ => rfl
  | [], _ :: _, h, _, _, _ => by simp at h
  | _ :: _, [], h, _, _, _ => by simp at h
  | a :: al, b :: bl, h, ha, hb, hv => by
    rw [List.all_cons, Bool.and_eq_true] at ha hb
    have hl : al.length = bl.length := by simpa using h
    have h1 := val_lt al ha.2
    have h2 := val_lt bl hb.2
    have da := isDig_iff.1 ha.1
    have db := isDig_iff.1 hb.1
    rw [val_cons, val_cons, ← hl] at hv
    rw [← hl] at h2
    have ih := dig_unique al bl hl ha.2 hb.2
    obtain ⟨P, hP⟩ : ∃ P, 10 ^ al.length = P := ⟨_, rfl⟩
    rw [hP] at h1 h2 hv
    have key : ∀ u v : Nat, u < v → u * P + P ≤ v * P := fun u v huv => by
      have := Nat.mul_le_mul_right P (show u + 1 ≤ v by omega)
      rwa [Nat.add_mul, Nat.one_mul] at this
    have hd : a.toNat - 48 = b.toNat - 48 := by
      rcases Nat.lt_trichotomy (a.toNat - 48) (b.toNat - 48) with c | c | c
      · have := key _ _ c; omega
      · exact c
      · have := key _ _ c; omega
    rw [hd] at hv
    have e1 : a = b := UInt8.toNat.inj (by omega)
    rw [e1, ih (by omega)]
theorem dec_of_canon {m : List UInt8} (h : m.all isDig = true) (h0 : m ≠ []) (h1 : m.head? = some 48 → m.length = 1) : m = Lib.decDigits (val m) := by
  refine dig_unique _ _ ?_ h (decDigits_dig _) (val_decDigits _).symm
  have hp : 0 < m.length := List.length_pos_iff.2 h0
  have a1 := dec_len_le (val m) m.length (val_lt m h) hp
  by_cases hh : m.head? = some 48
  · have := List.length_pos_iff.2 (decDigits_ne (val m))
    have := h1 hh
    omega
  · have a2 := val_ge_of_head h h0 hh
    have a3 : 10 ^ (m.length - 1) < 10 ^ (Lib.decDigits (val m)).length := Nat.lt_of_le_of_lt a2 (dig_lt _)
    have a4 := (Nat.pow_lt_pow_iff_right (by decide : 1 < 10)).1 a3
    omega
/-- A canonical text is the text of an integer. -/
theorem canon_is_itoa {l : List UInt8} (h : canonB l = true) : ∃ x : Int, l = Lib.itoa x ∧ dlen x = (mag l).length := by
  obtain ⟨h1, h2, h3⟩ := canon_parts h
  have e := dec_of_canon h1 h2 (fun hh => (h3 hh).2)
  cases hn : neg l with
  | false =>
    have em := mag_pos hn
    refine ⟨(val (mag l) : Int), ?_, ?_⟩
    · rw [itoa_nat _ (by omega), show ((val (mag l) : Nat) : Int).toNat = val (mag l) by omega, ← e, em]
    · unfold dlen; rw [show ((val (mag l) : Nat) : Int).natAbs = val (mag l) by omega, ← e]
  | true =>
    have hpos : 0 < val (mag l) := by
      have hh : (mag l).head? ≠ some 48 := fun hh => by have := (h3 hh).1; rw [hn] at this; cases this
      exact Nat.lt_of_lt_of_le (Nat.pow_pos (by decide)) (val_ge_of_head h1 h2 hh)
    refine ⟨-(val (mag l) : Int), ?_, ?_⟩
    · rw [← sgn_of (-(val (mag l) : Int)) true (val (mag l)) (by omega) (fun _ => by rw [decide_eq_true (by omega)])]
      unfold sgn; rw [decide_eq_true hpos, ← e]; exact mag_neg_cons hn
    · unfold dlen; rw [show (-(val (mag l) : Int)).natAbs = val (mag l) by omega, ← e]
set_option maxHeartbeats 1000000 in
/-- The reference's magnitude. -/
theorem refAbs_any (x : Int) (w : World) :
    Calls Tryz.prog 116 #[.string (itoaB x)] w fun e w' => e = .returned (.string (itoaB x.natAbs)) ∧ Below w.heap.size w w' := by
  have s1 : ∀ w, Calls Tryz.prog 71 #[.string (itoaB x)] w fun e w' => e = .returned (.tuple #[.bool (decide (x < 0)), .string (magB (itoaB x))]) ∧ Below w.heap.size w w' := fun w => split_any _ w _ (neg_itoaB x)
  have e : magB (itoaB x) = itoaB x.natAbs := by
    rw [magB_itoa]; unfold itoaB; rw [itoa_nat _ (by omega)]; rfl
  rw [e] at s1
  obtain ⟨c, hc⟩ : ∃ c, decide (x < 0) = c := ⟨_, rfl⟩
  obtain ⟨r, hr⟩ : ∃ r, itoaB x.natAbs = r := ⟨_, rfl⟩
  obtain ⟨a, ha⟩ : ∃ a, itoaB x = a := ⟨_, rfl⟩
  rw [hc, hr, ha] at s1
  rw [hr, ha]
  have S1 := Lib.hid s1
  clear s1 e hc hr ha
  have hb := Below.refl w.heap.size w
  go_enter Tryz.func116, Tryz.ntmps116
  go_wp2_with (go_at_call 71; refine (chain hb (S1.out _)).mono ?_; clear hb; rintro e w1 ⟨rfl, hb⟩)
  go_ret
  exact ⟨rfl, hb⟩
end Go.Proofs.YtgllflfifbacnaaGreatDoor.Kl
