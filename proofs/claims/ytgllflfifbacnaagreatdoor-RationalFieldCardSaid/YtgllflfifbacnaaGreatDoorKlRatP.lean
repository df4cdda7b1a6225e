/- Contracts: package rational's small functions on the texts of rational numbers. -/
import Derived.Test.YtgllflfifbacnaaGreatDoorKlRat
namespace Go.Proofs.YtgllflfifbacnaaGreatDoor.Kl
open Go Go.RowKit

/-- The library's own tables, and the length up to which its search looks at once. -/
structure EnvR (w : World) : Prop where
  env : Env w
  ml : ∃ m, w.cell? ⟨0, 0, none⟩ = some (.int .i64 m)
theorem EnvR.below {w w' : World} (h : EnvR w) (hb : Below w.heap.size w w') : EnvR w' :=
  ⟨h.env.below hb, h.ml.imp fun m hm => by rw [hb.cell (p := ⟨0, 0, none⟩) (Lib.lt_of_cell hm)]; exact hm⟩
theorem cut_call (s sep a b : ByteArray) (f : Bool) (h : Lib.cut s.data.toList sep.data.toList = (a.data.toList, b.data.toList, f)) (hs : s.size ≤ 1000000) (w : World) (R : EnvR w) :
    Calls Tryz.prog 64 #[.string s, .string sep] w fun e w' => e = .returned (.tuple #[.string a, .string b, .bool f]) ∧ Below w.heap.size w w' := by
  obtain ⟨m, hm⟩ := R.ml
  refine (Tryz.strings_Cut s sep m w (by omega) hm).mono ?_
  rintro e w' ⟨he, n, rfl⟩
  refine ⟨?_, below_drewN w n⟩
  rw [he, h]
theorem itoa_one : itoaB 1 = ⟨#[49]⟩ := by decide +kernel
theorem str_one (y : Int) : ((itoaB y).toList == [49]) = decide (y = 1) := by
  rw [Bool.eq_iff_iff, beq_iff_eq, decide_eq_true_iff, Lib.toList_data]
  constructor
  · intro h
    refine itoa_inj (dat_inj ?_)
    rw [h, itoa_one]
  · rintro rfl
    rw [itoa_one]
theorem str_zero (y : Int) : ((itoaB y).toList == [48]) = decide (y = 0) := by
  rw [Bool.eq_iff_iff, beq_iff_eq, decide_eq_true_iff, ← itoa_eq_zero, Lib.toList_data]
  exact ⟨fun h => dat_inj h, fun h => by rw [h]⟩
theorem cut_ratB (q : Rat) (w : World) (R : EnvR w) (hq : RL q 100000) :
    Calls Tryz.prog 64 #[.string (ratB q), .string ⟨#[47]⟩] w fun e w' => e = .returned (.tuple #[.string (itoaB q.num), .string (if q.den = 1 then ⟨#[]⟩ else itoaB q.den), .bool (!decide (q.den = 1))]) ∧ Below w.heap.size w w' := by
  have := size_of_RL hq
  refine cut_call _ _ _ _ _ ?_ (by omega) w R
  show Lib.cut (ratS q) [47] = _
  rw [cut_rat]
  by_cases h : q.den = 1
  · rw [if_pos h, if_pos h]; rfl
  · rw [if_neg h, if_neg h]; rfl
set_option maxRecDepth 100000 in
set_option maxHeartbeats 200000 in
theorem rparts_cut (s a b r1 r2 : ByteArray) (f : Bool) (hc : ∀ w, EnvR w → Calls Tryz.prog 64 #[.string s, .string ⟨#[47]⟩] w fun e w' => e = .returned (.tuple #[.string a, .string b, .bool f]) ∧ Below w.heap.size w w') (h1 : f = true → r1 = a ∧ r2 = b) (h2 : f = false → r1 = s ∧ r2 = ⟨#[49]⟩) (w : World) (R : EnvR w) :
    Calls Tryz.prog 17 #[.string s] w fun e w' => e = .returned (.tuple #[.string r1, .string r2]) ∧ Below w.heap.size w w' := by
  have C1 := Lib.hid hc
  clear hc
  have hb := Below.refl w.heap.size w
  cases f
  · obtain ⟨rfl, rfl⟩ := h2 rfl
    clear h1 h2
    go_enter Tryz.func17, Tryz.ntmps17
    go_wp2_with (go_at_call 64; refine (chain hb (C1.out _ (R.below hb))).mono ?_; clear hb; rintro e w1 ⟨rfl, hb⟩)
    go_ret2
    exact ⟨rfl, hb⟩
  · obtain ⟨rfl, rfl⟩ := h1 rfl
    clear h1 h2
    go_enter Tryz.func17, Tryz.ntmps17
    go_wp2_with (go_at_call 64; refine (chain hb (C1.out _ (R.below hb))).mono ?_; clear hb; rintro e w1 ⟨rfl, hb⟩)
    go_ret2
    exact ⟨rfl, hb⟩
/-- The parts of a number. -/
theorem rparts_any (q : Rat) (w : World) (R : EnvR w) (hq : RL q 100000) :
    Calls Tryz.prog 17 #[.string (ratB q)] w fun e w' => e = .returned (.tuple #[.string (itoaB q.num), .string (itoaB q.den)]) ∧ Below w.heap.size w w' := by
  refine rparts_cut (ratB q) _ _ _ _ _ (fun w R => cut_ratB q w R hq) (fun h => ?_) (fun h => ?_) w R
  · have hd : q.den ≠ 1 := by simpa using h
    exact ⟨rfl, by rw [if_neg hd]⟩
  · have hd : q.den = 1 := by simpa using h
    exact ⟨(ratB_int hd).symm, by rw [hd]; exact itoa_one⟩
set_option maxRecDepth 100000 in
set_option maxHeartbeats 200000 in
theorem over_one (a b : ByteArray) (h1 : (b.toList == [49]) = true) (w : World) (_R : EnvR w) :
    Calls Tryz.prog 76 #[.string a, .string b] w fun e w' => e = .returned (.string a) ∧ Below w.heap.size w w' := by
  have hb := Below.refl w.heap.size w
  go_enter Tryz.func76, Tryz.ntmps76
  go_wp2
  go_ret
  exact ⟨rfl, hb⟩
set_option maxRecDepth 100000 in
set_option maxHeartbeats 200000 in
theorem over_more (x y : Int) (hx : dlen x ≤ 40000) (hy : dlen y ≤ 40000) (hy0 : y ≠ 0) (hy1 : y ≠ 1) (w : World) (R : EnvR w) :
    Calls Tryz.prog 76 #[.string (itoaB x), .string (itoaB y)] w fun e w' => e = .returned (.string (itoaB (x / y))) ∧ Below w.heap.size w w' := by
  have c1 : ∀ w, EnvR w → Calls Tryz.prog 130 #[.string (itoaB x), .string (itoaB y)] w fun e w' => e = .returned (.tuple #[.string (itoaB (x / y)), .string (itoaB (x % y)), .int .i64 0]) ∧ Below w.heap.size w w' := fun w R => divMod_any x y w R.env hx hy hy0
  have h1 : ((itoaB y).toList == [49]) = false := by rw [str_one, decide_eq_false hy1]
  obtain ⟨q, eq⟩ : ∃ v, itoaB (x / y) = v := ⟨_, rfl⟩
  try simp only [eq] at c1 h1 ⊢
  obtain ⟨r, er⟩ : ∃ v, itoaB (x % y) = v := ⟨_, rfl⟩
  try simp only [er] at c1 h1 ⊢
  obtain ⟨a, ea⟩ : ∃ v, itoaB x = v := ⟨_, rfl⟩
  try simp only [ea] at c1 h1 ⊢
  obtain ⟨b, eb⟩ : ∃ v, itoaB y = v := ⟨_, rfl⟩
  try simp only [eb] at c1 h1 ⊢
  have C1 := Lib.hid c1
  clear c1 eq er ea eb hx hy hy0 hy1
  have hb := Below.refl w.heap.size w
  go_enter Tryz.func76, Tryz.ntmps76
  go_wp2_with (go_at_call 130; ((with_reducible refine (chain hb (C1.out _ (R.below hb))).mono ?_); clear hb; rintro e w1 ⟨rfl, hb⟩))
  go_ret
  exact ⟨rfl, hb⟩
/-- The quotient of two integers, rounded down. -/
theorem over_any (x y : Int) (w : World) (R : EnvR w) (hx : dlen x ≤ 40000) (hy : dlen y ≤ 40000) (hy0 : y ≠ 0) :
    Calls Tryz.prog 76 #[.string (itoaB x), .string (itoaB y)] w fun e w' => e = .returned (.string (itoaB (x / y))) ∧ Below w.heap.size w w' := by
  by_cases h : y = 1
  · subst h
    rw [Int.ediv_one]
    exact over_one _ _ (by rw [str_one]; rfl) w R
  · exact over_more x y hx hy hy0 h w R
set_option maxRecDepth 100000 in
set_option maxHeartbeats 200000 in
theorem join_one (a b : ByteArray) (h1 : (b.toList == [49]) = true) (w : World) (_R : EnvR w) :
    Calls Tryz.prog 75 #[.string a, .string b] w fun e w' => e = .returned (.string a) ∧ Below w.heap.size w w' := by
  have hb := Below.refl w.heap.size w
  go_enter Tryz.func75, Tryz.ntmps75
  go_wp2
  go_ret
  exact ⟨rfl, hb⟩
set_option maxRecDepth 100000 in
set_option maxHeartbeats 200000 in
theorem join_more (a b : ByteArray) (h1 : (b.toList == [49]) = false) (ha : a.size ≤ 100001) (hb' : b.size ≤ 100001) (w : World) (_R : EnvR w) :
    Calls Tryz.prog 75 #[.string a, .string b] w fun e w' => e = .returned (.string (a ++ ⟨#[47]⟩ ++ b)) ∧ Below w.heap.size w w' := by
  have hb := Below.refl w.heap.size w
  go_enter Tryz.func75, Tryz.ntmps75
  go_wp2
  go_ret
  exact ⟨rfl, hb⟩
/-- A number of its parts. -/
theorem join_any (q : Rat) (x y : Int) (hx : q.num = x) (hy : (q.den : Int) = y) (w : World) (R : EnvR w) (hq : RL q 100000) :
    Calls Tryz.prog 75 #[.string (itoaB x), .string (itoaB y)] w fun e w' => e = .returned (.string (ratB q)) ∧ Below w.heap.size w w' := by
  subst hx hy
  by_cases h : q.den = 1
  · rw [ratB_int h]
    exact join_one _ _ (by rw [str_one, h]; rfl) w R
  · have e : ratB q = itoaB q.num ++ ⟨#[47]⟩ ++ itoaB q.den := by
      refine dat_inj ?_
      show ratS q = _
      rw [ratS_frac h, ByteArray.data_append, ByteArray.data_append, Array.toList_append, Array.toList_append]
      show _ = (Lib.itoa q.num ++ [47]) ++ Lib.itoa q.den
      rw [List.append_assoc]; rfl
    rw [e]
    exact join_more _ _ (by rw [str_one]; exact decide_eq_false (by omega)) (itoaB_size _ hq.1) (itoaB_size _ hq.2) w R
set_option maxRecDepth 100000 in
set_option maxHeartbeats 200000 in
theorem rsign_any (q : Rat) (hq : RL q 100000) (w : World) (R : EnvR w) :
    Calls Tryz.prog 37 #[.string (ratB q)] w fun e w' => e = .returned (.int .i64 q.num.sign) ∧ Below w.heap.size w w' := by
  have c1 : ∀ w, EnvR w → Calls Tryz.prog 17 #[.string (ratB q)] w fun e w' => e = .returned (.tuple #[.string (itoaB q.num), .string (itoaB q.den)]) ∧ Below w.heap.size w w' := fun w R => rparts_any q w R hq
  have c2 : ∀ w, EnvR w → Calls Tryz.prog 73 #[.string (itoaB q.num)] w fun e w' => e = .returned (.int .i64 q.num.sign) ∧ Below w.heap.size w w' := fun w R => sign_any _ w
  obtain ⟨z, ez⟩ : ∃ v, q.num.sign = v := ⟨_, rfl⟩
  try simp only [ez] at c1 c2 ⊢
  obtain ⟨a, ea⟩ : ∃ v, itoaB q.num = v := ⟨_, rfl⟩
  try simp only [ea] at c1 c2 ⊢
  obtain ⟨b, eb⟩ : ∃ v, itoaB q.den = v := ⟨_, rfl⟩
  try simp only [eb] at c1 c2 ⊢
  obtain ⟨s, es⟩ : ∃ v, ratB q = v := ⟨_, rfl⟩
  try simp only [es] at c1 c2 ⊢
  have C1 := Lib.hid c1
  have C2 := Lib.hid c2
  clear c1 c2 ez ea eb es hq
  have hb := Below.refl w.heap.size w
  go_enter Tryz.func37, Tryz.ntmps37
  go_wp2_with (first | (go_at_call 17; ((with_reducible refine (chain hb (C1.out _ (R.below hb))).mono ?_); clear hb; rintro e w1 ⟨rfl, hb⟩)) | (go_at_call 73; ((with_reducible refine (chain hb (C2.out _ (R.below hb))).mono ?_); clear hb; rintro e w1 ⟨rfl, hb⟩)))
  go_ret
  exact ⟨rfl, hb⟩
theorem ratB_of (q : Rat) (x y : Int) (hx : q.num = x) (hy : (q.den : Int) = y) : ratB q = if y = 1 then itoaB x else itoaB x ++ ⟨#[47]⟩ ++ itoaB y := by
  subst hx hy
  by_cases h : q.den = 1
  · rw [if_pos (by omega), ratB_int h]
  · rw [if_neg (by omega), ratB_more h]
theorem gcd_pos_den {n d : Int} (hd : 0 < d) : 0 < ((Nat.gcd n.natAbs d.natAbs : Nat) : Int) := by
  have := Nat.gcd_pos_of_pos_right n.natAbs (show 0 < d.natAbs by omega); omega
theorem mk_parts (n d : Int) (hd : 0 < d) : (Rat.divInt n d).num = n / ((Nat.gcd n.natAbs d.natAbs : Nat) : Int) ∧ ((Rat.divInt n d).den : Int) = d / ((Nat.gcd n.natAbs d.natAbs : Nat) : Int) := by
  have h1 := Rat.num_divInt n d
  have h2 := Rat.den_divInt n d
  rw [Int.sign_eq_one_of_pos hd, Int.one_mul] at h1
  rw [if_neg (by omega)] at h2
  have e : d.gcd n = Nat.gcd n.natAbs d.natAbs := Nat.gcd_comm ..
  rw [e] at h1 h2
  refine ⟨h1, ?_⟩
  rw [h2, Int.natCast_ediv, show ((d.natAbs : Nat) : Int) = d by omega]
theorem dlen_div (x : Int) (g : Nat) (K : Nat) (hK : 0 < K) (h : dlen x ≤ K) (hg : (g : Int) ∣ x) : dlen (x / (g : Int)) ≤ K := by
  unfold dlen at *
  refine dec_len_le _ _ (Nat.lt_of_le_of_lt ?_ (Nat.lt_of_lt_of_le (dig_lt x.natAbs) (Nat.pow_le_pow_right (by decide) h))) hK
  rw [Int.natAbs_ediv_of_dvd hg]
  exact Nat.div_le_self _ _
theorem dlen_gcd (n d : Int) (K : Nat) (hK : 0 < K) (hd : 0 < d) (h : dlen d ≤ K) : dlen ((Nat.gcd n.natAbs d.natAbs : Nat) : Int) ≤ K :=
  dlen_nat_le _ d K hK (Nat.gcd_le_right _ (by omega)) h
theorem gcd_dvd1 (n d : Int) : ((Nat.gcd n.natAbs d.natAbs : Nat) : Int) ∣ n := Int.ofNat_dvd_left.2 (Nat.gcd_dvd_left ..)
theorem gcd_dvd2 (n d : Int) : ((Nat.gcd n.natAbs d.natAbs : Nat) : Int) ∣ d := Int.ofNat_dvd_left.2 (Nat.gcd_dvd_right ..)
theorem RL_mk (n d : Int) (K : Nat) (hK : 0 < K) (hd : 0 < d) (hn : dlen n ≤ K) (hdl : dlen d ≤ K) : RL (Rat.divInt n d) K := by
  obtain ⟨h1, h2⟩ := mk_parts n d hd
  exact ⟨by rw [h1]; exact dlen_div _ _ _ hK hn (gcd_dvd1 ..), by rw [h2]; exact dlen_div _ _ _ hK hdl (gcd_dvd2 ..)⟩
set_option maxRecDepth 100000 in
set_option maxHeartbeats 200000 in
theorem rnew_pos (n d : Int) (hn : dlen n ≤ 40000) (hdl : dlen d ≤ 40000) (hd : 0 < d) (w : World) (R : EnvR w) :
    Calls Tryz.prog 22 #[.string (itoaB n), .string (itoaB d)] w fun e w' => e = .returned (.tuple #[.string (ratB (Rat.divInt n d)), .int .i64 0]) ∧ Below w.heap.size w w' := by
  have c1 : ∀ w, EnvR w → Calls Tryz.prog 73 #[.string (itoaB d)] w fun e w' => e = .returned (.int .i64 1) ∧ Below w.heap.size w w' := fun w R => by have := sign_any d w; rwa [Int.sign_eq_one_of_pos hd] at this
  have c2 : ∀ w, EnvR w → Calls Tryz.prog 67 #[.string (itoaB (n)), .string (itoaB (d))] w fun e w' => e = .returned (.string (itoaB ((Nat.gcd (n).natAbs (d).natAbs : Nat) : Int))) ∧ Below w.heap.size w w' := fun w R => gcd_any _ _ w R.env hn hdl
  have c3 : ∀ w, EnvR w → Calls Tryz.prog 76 #[.string (itoaB (n)), .string (itoaB ((Nat.gcd (n).natAbs (d).natAbs : Nat) : Int))] w fun e w' => e = .returned (.string (itoaB ((n) / ((Nat.gcd (n).natAbs (d).natAbs : Nat) : Int)))) ∧ Below w.heap.size w w' := fun w R => over_any _ _ w R hn (dlen_gcd _ _ _ (by decide) hd hdl) (by have := gcd_pos_den (n := n) hd; omega)
  have c4 : ∀ w, EnvR w → Calls Tryz.prog 76 #[.string (itoaB (d)), .string (itoaB ((Nat.gcd (n).natAbs (d).natAbs : Nat) : Int))] w fun e w' => e = .returned (.string (itoaB ((d) / ((Nat.gcd (n).natAbs (d).natAbs : Nat) : Int)))) ∧ Below w.heap.size w w' := fun w R => over_any _ _ w R hdl (dlen_gcd _ _ _ (by decide) hd hdl) (by have := gcd_pos_den (n := n) hd; omega)
  have c5 : ∀ w, EnvR w → Calls Tryz.prog 75 #[.string (itoaB ((n) / ((Nat.gcd (n).natAbs (d).natAbs : Nat) : Int))), .string (itoaB ((d) / ((Nat.gcd (n).natAbs (d).natAbs : Nat) : Int)))] w fun e w' => e = .returned (.string (ratB (Rat.divInt n d))) ∧ Below w.heap.size w w' := fun w R => join_any _ _ _ (mk_parts _ _ hd).1 (mk_parts _ _ hd).2 w R ((RL_mk _ _ _ (by decide) hd hn hdl).mono (by decide))
  obtain ⟨q, eq⟩ : ∃ v, ratB (Rat.divInt n d) = v := ⟨_, rfl⟩
  try simp only [eq] at c1 c2 c3 c4 c5 ⊢
  obtain ⟨c, ec⟩ : ∃ v, itoaB (n / ((Nat.gcd n.natAbs d.natAbs : Nat) : Int)) = v := ⟨_, rfl⟩
  try simp only [ec] at c1 c2 c3 c4 c5 ⊢
  obtain ⟨f, ef⟩ : ∃ v, itoaB (d / ((Nat.gcd n.natAbs d.natAbs : Nat) : Int)) = v := ⟨_, rfl⟩
  try simp only [ef] at c1 c2 c3 c4 c5 ⊢
  obtain ⟨g, eg⟩ : ∃ v, itoaB ((Nat.gcd n.natAbs d.natAbs : Nat) : Int) = v := ⟨_, rfl⟩
  try simp only [eg] at c1 c2 c3 c4 c5 ⊢
  obtain ⟨a, ea⟩ : ∃ v, itoaB n = v := ⟨_, rfl⟩
  try simp only [ea] at c1 c2 c3 c4 c5 ⊢
  obtain ⟨b, eb⟩ : ∃ v, itoaB d = v := ⟨_, rfl⟩
  try simp only [eb] at c1 c2 c3 c4 c5 ⊢
  have C1 := Lib.hid c1
  have C2 := Lib.hid c2
  have C3 := Lib.hid c3
  have C4 := Lib.hid c4
  have C5 := Lib.hid c5
  clear c1 c2 c3 c4 c5 eq ec ef eg ea eb hn hdl hd
  have hb := Below.refl w.heap.size w
  go_enter Tryz.func22, Tryz.ntmps22
  go_wp2_with (first | (go_at_call 73; ((with_reducible refine (chain hb (C1.out _ (R.below hb))).mono ?_); clear hb; rintro e w1 ⟨rfl, hb⟩)) | (go_at_call 67; ((with_reducible refine (chain hb (C2.out _ (R.below hb))).mono ?_); clear hb; rintro e w1 ⟨rfl, hb⟩)) | (go_at_call 76; first | ((with_reducible refine (chain hb (C3.out _ (R.below hb))).mono ?_); clear hb; rintro e w1 ⟨rfl, hb⟩) | ((with_reducible refine (chain hb (C4.out _ (R.below hb))).mono ?_); clear hb; rintro e w1 ⟨rfl, hb⟩)) | (go_at_call 75; ((with_reducible refine (chain hb (C5.out _ (R.below hb))).mono ?_); clear hb; rintro e w1 ⟨rfl, hb⟩)))
  go_ret2
  exact ⟨rfl, hb⟩
set_option maxRecDepth 100000 in
set_option maxHeartbeats 200000 in
theorem rnew_neg (n d : Int) (hn' : dlen n ≤ 40000) (hdl' : dlen d ≤ 40000) (hd' : d < 0) (w : World) (R : EnvR w) :
    Calls Tryz.prog 22 #[.string (itoaB n), .string (itoaB d)] w fun e w' => e = .returned (.tuple #[.string (ratB (Rat.divInt n d)), .int .i64 0]) ∧ Below w.heap.size w w' := by
  have hd : 0 < -d := by omega
  have hn : dlen (-n) ≤ 40000 := by rw [dlen_neg]; exact hn'
  have hdl : dlen (-d) ≤ 40000 := by rw [dlen_neg]; exact hdl'
  have c1 : ∀ w, EnvR w → Calls Tryz.prog 73 #[.string (itoaB d)] w fun e w' => e = .returned (.int .i64 (-1)) ∧ Below w.heap.size w w' := fun w R => by have := sign_any d w; rwa [Int.sign_eq_neg_one_of_neg hd'] at this
  have c2 : ∀ w, EnvR w → Calls Tryz.prog 74 #[.string (itoaB n)] w fun e w' => e = .returned (.string (itoaB (-n))) ∧ Below w.heap.size w w' := fun w R => neg_any n w (Nat.le_trans hn' (by decide))
  have c3 : ∀ w, EnvR w → Calls Tryz.prog 74 #[.string (itoaB d)] w fun e w' => e = .returned (.string (itoaB (-d))) ∧ Below w.heap.size w w' := fun w R => neg_any d w (Nat.le_trans hdl' (by decide))
  have c4 : ∀ w, EnvR w → Calls Tryz.prog 67 #[.string (itoaB (-n)), .string (itoaB (-d))] w fun e w' => e = .returned (.string (itoaB ((Nat.gcd (-n).natAbs (-d).natAbs : Nat) : Int))) ∧ Below w.heap.size w w' := fun w R => gcd_any _ _ w R.env hn hdl
  have c5 : ∀ w, EnvR w → Calls Tryz.prog 76 #[.string (itoaB (-n)), .string (itoaB ((Nat.gcd (-n).natAbs (-d).natAbs : Nat) : Int))] w fun e w' => e = .returned (.string (itoaB ((-n) / ((Nat.gcd (-n).natAbs (-d).natAbs : Nat) : Int)))) ∧ Below w.heap.size w w' := fun w R => over_any _ _ w R hn (dlen_gcd _ _ _ (by decide) hd hdl) (by have := gcd_pos_den (n := -n) hd; omega)
  have c6 : ∀ w, EnvR w → Calls Tryz.prog 76 #[.string (itoaB (-d)), .string (itoaB ((Nat.gcd (-n).natAbs (-d).natAbs : Nat) : Int))] w fun e w' => e = .returned (.string (itoaB ((-d) / ((Nat.gcd (-n).natAbs (-d).natAbs : Nat) : Int)))) ∧ Below w.heap.size w w' := fun w R => over_any _ _ w R hdl (dlen_gcd _ _ _ (by decide) hd hdl) (by have := gcd_pos_den (n := -n) hd; omega)
  have c7 : ∀ w, EnvR w → Calls Tryz.prog 75 #[.string (itoaB ((-n) / ((Nat.gcd (-n).natAbs (-d).natAbs : Nat) : Int))), .string (itoaB ((-d) / ((Nat.gcd (-n).natAbs (-d).natAbs : Nat) : Int)))] w fun e w' => e = .returned (.string (ratB (Rat.divInt n d))) ∧ Below w.heap.size w w' := fun w R => by have := join_any (Rat.divInt (-n) (-d)) _ _ (mk_parts (-n) (-d) hd).1 (mk_parts (-n) (-d) hd).2 w R ((RL_mk _ _ _ (by decide) hd hn hdl).mono (by decide)); rwa [Rat.neg_divInt_neg] at this
  obtain ⟨q, eq⟩ : ∃ v, ratB (Rat.divInt n d) = v := ⟨_, rfl⟩
  try simp only [eq] at c1 c2 c3 c4 c5 c6 c7 ⊢
  obtain ⟨c, ec⟩ : ∃ v, itoaB (-n / ((Nat.gcd (-n).natAbs (-d).natAbs : Nat) : Int)) = v := ⟨_, rfl⟩
  try simp only [ec] at c1 c2 c3 c4 c5 c6 c7 ⊢
  obtain ⟨f, ef⟩ : ∃ v, itoaB (-d / ((Nat.gcd (-n).natAbs (-d).natAbs : Nat) : Int)) = v := ⟨_, rfl⟩
  try simp only [ef] at c1 c2 c3 c4 c5 c6 c7 ⊢
  obtain ⟨g, eg⟩ : ∃ v, itoaB ((Nat.gcd (-n).natAbs (-d).natAbs : Nat) : Int) = v := ⟨_, rfl⟩
  try simp only [eg] at c1 c2 c3 c4 c5 c6 c7 ⊢
  obtain ⟨u, eu⟩ : ∃ v, itoaB (-n) = v := ⟨_, rfl⟩
  try simp only [eu] at c1 c2 c3 c4 c5 c6 c7 ⊢
  obtain ⟨v, ev⟩ : ∃ v, itoaB (-d) = v := ⟨_, rfl⟩
  try simp only [ev] at c1 c2 c3 c4 c5 c6 c7 ⊢
  obtain ⟨a, ea⟩ : ∃ v, itoaB n = v := ⟨_, rfl⟩
  try simp only [ea] at c1 c2 c3 c4 c5 c6 c7 ⊢
  obtain ⟨b, eb⟩ : ∃ v, itoaB d = v := ⟨_, rfl⟩
  try simp only [eb] at c1 c2 c3 c4 c5 c6 c7 ⊢
  have C1 := Lib.hid c1
  have C2 := Lib.hid c2
  have C3 := Lib.hid c3
  have C4 := Lib.hid c4
  have C5 := Lib.hid c5
  have C6 := Lib.hid c6
  have C7 := Lib.hid c7
  clear c1 c2 c3 c4 c5 c6 c7 eq ec ef eg eu ev ea eb hn hdl hd hn' hdl' hd'
  have hb := Below.refl w.heap.size w
  go_enter Tryz.func22, Tryz.ntmps22
  go_wp2_with (first | (go_at_call 73; ((with_reducible refine (chain hb (C1.out _ (R.below hb))).mono ?_); clear hb; rintro e w1 ⟨rfl, hb⟩)) | (go_at_call 74; first | ((with_reducible refine (chain hb (C2.out _ (R.below hb))).mono ?_); clear hb; rintro e w1 ⟨rfl, hb⟩) | ((with_reducible refine (chain hb (C3.out _ (R.below hb))).mono ?_); clear hb; rintro e w1 ⟨rfl, hb⟩)) | (go_at_call 67; ((with_reducible refine (chain hb (C4.out _ (R.below hb))).mono ?_); clear hb; rintro e w1 ⟨rfl, hb⟩)) | (go_at_call 76; first | ((with_reducible refine (chain hb (C5.out _ (R.below hb))).mono ?_); clear hb; rintro e w1 ⟨rfl, hb⟩) | ((with_reducible refine (chain hb (C6.out _ (R.below hb))).mono ?_); clear hb; rintro e w1 ⟨rfl, hb⟩)) | (go_at_call 75; ((with_reducible refine (chain hb (C7.out _ (R.below hb))).mono ?_); clear hb; rintro e w1 ⟨rfl, hb⟩)))
  go_ret2
  exact ⟨rfl, hb⟩
set_option maxRecDepth 100000 in
set_option maxHeartbeats 200000 in
theorem rnew_zero (a : ByteArray) (w : World) (R : EnvR w) :
    Calls Tryz.prog 22 #[.string a, .string (itoaB 0)] w fun e w' => e = .returned (.tuple #[.string ⟨#[]⟩, .int .i64 17]) ∧ Below w.heap.size w w' := by
  have c1 : ∀ w, EnvR w → Calls Tryz.prog 73 #[.string (itoaB 0)] w fun e w' => e = .returned (.int .i64 0) ∧ Below w.heap.size w w' := fun w R => sign_any 0 w
  obtain ⟨b, eb⟩ : ∃ v, itoaB 0 = v := ⟨_, rfl⟩
  try simp only [eb] at c1 ⊢
  have C1 := Lib.hid c1
  clear c1 eb
  have hb := Below.refl w.heap.size w
  go_enter Tryz.func22, Tryz.ntmps22
  go_wp2_with (go_at_call 73; ((with_reducible refine (chain hb (C1.out _ (R.below hb))).mono ?_); clear hb; rintro e w1 ⟨rfl, hb⟩))
  go_ret2
  exact ⟨rfl, hb⟩
/-- The quotient of two integers. -/
theorem rnew_any (n d : Int) (w : World) (R : EnvR w) (hn : dlen n ≤ 40000) (hdl : dlen d ≤ 40000) (hd : d ≠ 0) :
    Calls Tryz.prog 22 #[.string (itoaB n), .string (itoaB d)] w fun e w' => e = .returned (.tuple #[.string (ratB (Rat.divInt n d)), .int .i64 0]) ∧ Below w.heap.size w w' := by
  by_cases h : 0 < d
  · exact rnew_pos n d hn hdl h w R
  · exact rnew_neg n d hn hdl (by omega) w R
theorem dlen_int (n : Int) (h0 : -9223372036854775808 ≤ n) (h1 : n ≤ 9223372036854775807) : dlen n ≤ 30 := by
  unfold dlen
  exact dec_len_le _ _ (show n.natAbs < 10 ^ 30 by omega) (by decide)
set_option maxRecDepth 100000 in
set_option maxHeartbeats 200000 in
theorem rof_call (n d : Int) (hn0 : -9223372036854775808 ≤ n) (hn1 : n ≤ 9223372036854775807) (hd0 : -9223372036854775808 ≤ d) (hd1 : d ≤ 9223372036854775807) (s : ByteArray) (z : Int) (hc : ∀ w, EnvR w → Calls Tryz.prog 22 #[.string (itoaB n), .string (itoaB d)] w fun e w' => e = .returned (.tuple #[.string s, .int .i64 z]) ∧ Below w.heap.size w w') (w : World) (R : EnvR w) :
    Calls Tryz.prog 23 #[.int .i64 n, .int .i64 d] w fun e w' => e = .returned (.tuple #[.string s, .int .i64 z]) ∧ Below w.heap.size w w' := by
  have c1 : ∀ w, EnvR w → Calls Tryz.prog 77 #[.int .i64 n] w fun e w' => e = .returned (.string (itoaB n)) ∧ Below w.heap.size w w' := fun w R => of_any n hn0 hn1 w R.env
  have c2 : ∀ w, EnvR w → Calls Tryz.prog 77 #[.int .i64 d] w fun e w' => e = .returned (.string (itoaB d)) ∧ Below w.heap.size w w' := fun w R => of_any d hd0 hd1 w R.env
  have c3 : ∀ w, EnvR w → Calls Tryz.prog 22 #[.string (itoaB n), .string (itoaB d)] w fun e w' => e = .returned (.tuple #[.string s, .int .i64 z]) ∧ Below w.heap.size w w' := fun w R => hc w R
  obtain ⟨a, ea⟩ : ∃ v, itoaB n = v := ⟨_, rfl⟩
  try simp only [ea] at c1 c2 c3 ⊢
  obtain ⟨b, eb⟩ : ∃ v, itoaB d = v := ⟨_, rfl⟩
  try simp only [eb] at c1 c2 c3 ⊢
  have C1 := Lib.hid c1
  have C2 := Lib.hid c2
  have C3 := Lib.hid c3
  clear c1 c2 c3 ea eb hc
  have hb := Below.refl w.heap.size w
  go_enter Tryz.func23, Tryz.ntmps23
  go_wp2_with (first | (go_at_call 77; first | ((with_reducible refine (chain hb (C1.out _ (R.below hb))).mono ?_); clear hb; rintro e w1 ⟨rfl, hb⟩) | ((with_reducible refine (chain hb (C2.out _ (R.below hb))).mono ?_); clear hb; rintro e w1 ⟨rfl, hb⟩)) | (go_at_call 22; ((with_reducible refine (chain hb (C3.out _ (R.below hb))).mono ?_); clear hb; rintro e w1 ⟨rfl, hb⟩)))
  go_ret2
  exact ⟨rfl, hb⟩
/-- The quotient of two ints. -/
theorem rof_any (n d : Int) (hn0 : -9223372036854775808 ≤ n) (hn1 : n ≤ 9223372036854775807) (hd0 : -9223372036854775808 ≤ d) (hd1 : d ≤ 9223372036854775807) (hd : d ≠ 0) (w : World) (R : EnvR w) :
    Calls Tryz.prog 23 #[.int .i64 n, .int .i64 d] w fun e w' => e = .returned (.tuple #[.string (ratB (Rat.divInt n d)), .int .i64 0]) ∧ Below w.heap.size w w' :=
  rof_call n d hn0 hn1 hd0 hd1 _ _ (fun w R => rnew_any n d w R (Nat.le_trans (dlen_int n hn0 hn1) (by decide)) (Nat.le_trans (dlen_int d hd0 hd1) (by decide)) hd) w R
end Go.Proofs.YtgllflfifbacnaaGreatDoor.Kl
