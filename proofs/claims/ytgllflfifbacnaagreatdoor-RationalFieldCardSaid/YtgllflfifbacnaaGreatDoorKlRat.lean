/- The texts of rational numbers. No program in this text. -/
import Derived.Test.YtgllflfifbacnaaGreatDoorKlRefRoot
import Derived.Test.YtgllflfifbacnaaGreatDoorKlAdd
import Derived.Test.YtgllflfifbacnaaGreatDoorKlCanon
import Derived.Lib.IndexMore
namespace Go.Proofs.YtgllflfifbacnaaGreatDoor.Kl
open Go

theorem dig_ne47 {c : UInt8} (h : isDig c = true) : c ≠ 47 := by
  rintro rfl; revert h; decide
theorem nos_dig {l : List UInt8} (h : l.all isDig = true) : (47 : UInt8) ∉ l := fun hm => dig_ne47 (List.all_eq_true.1 h 47 hm) rfl
theorem nos_dec (u : Nat) : (47 : UInt8) ∉ Lib.decDigits u := nos_dig (decDigits_dig u)
theorem nos_itoa (n : Int) : (47 : UInt8) ∉ Lib.itoa n := by
  unfold Lib.itoa; split
  · simp [nos_dec]
  · exact nos_dec _
theorem occ_head (s : List UInt8) (i : Nat) : Lib.occAt s [47] i = (s[i]? == some 47) := by
  unfold Lib.occAt
  rw [← List.head?_drop]
  cases s.drop i with
  | nil => rfl
  | cons b r =>
    by_cases h : b = 47
    · subst h; simp
    · have h1 : ((47 : UInt8) == b) = false := by rw [beq_eq_false_iff_ne]; exact fun e => h e.symm
      have h2 : (b == (47 : UInt8)) = false := by rw [beq_eq_false_iff_ne]; exact h
      show (((47 : UInt8) == b) && List.isPrefixOf [] r) = (b == 47)
      rw [h1, h2]; rfl
theorem cut_hit {a b : List UInt8} (h : (47 : UInt8) ∉ a) : Lib.cut (a ++ 47 :: b) [47] = (a, b, true) := by
  have e : Lib.index (a ++ 47 :: b) [47] = a.length := Lib.index_first (by simp) (by rw [occ_head]; simp) (fun j hj => by
    rw [occ_head, List.getElem?_append_left hj, List.getElem?_eq_getElem hj]
    have : a[j] ≠ 47 := fun e => h (e ▸ List.getElem_mem hj)
    simp [this])
  unfold Lib.cut
  rw [e, if_pos (by omega)]
  simp
theorem cut_miss {l : List UInt8} (h : (47 : UInt8) ∉ l) : Lib.cut l [47] = (l, [], false) := by
  have e : Lib.index l [47] = -1 := by
    rcases Lib.index_spec l [47] with h1 | ⟨i, _, hi, ho, _⟩
    · exact h1.1
    · rw [occ_head, beq_iff_eq] at ho
      exact absurd (List.mem_of_getElem? ho) h
  unfold Lib.cut
  rw [e, if_neg (by decide)]
theorem idx_miss : ∀ {l : List UInt8}, (47 : UInt8) ∉ l → Lib.indexByte l 47 = -1
  | [], _ => rfl
  | b :: l, h => by
    have hb : (b == 47) = false := by rw [beq_eq_false_iff_ne]; exact fun e => h (by simp [e])
    have ih := idx_miss (l := l) (fun hm => h (List.mem_cons_of_mem _ hm))
    unfold Lib.indexByte
    rw [hb, ih]; rfl
theorem idx_hit : ∀ {a b : List UInt8}, (47 : UInt8) ∉ a → Lib.indexByte (a ++ 47 :: b) 47 = a.length
  | [], _, _ => rfl
  | c :: a, b, h => by
    have hb : (c == 47) = false := by rw [beq_eq_false_iff_ne]; exact fun e => h (by simp [e])
    have ih := idx_hit (a := a) (b := b) (fun hm => h (List.mem_cons_of_mem _ hm))
    rw [List.cons_append]
    unfold Lib.indexByte
    rw [hb, ih, if_neg (by decide), if_neg (by rw [beq_iff_eq]; omega)]
    simp
theorem slash_split (l : List UInt8) : (47 : UInt8) ∉ l ∨ ∃ a b, l = a ++ 47 :: b ∧ (47 : UInt8) ∉ a := by
  by_cases h : (47 : UInt8) ∈ l
  · obtain ⟨a, b, e, hn⟩ := List.eq_append_cons_of_mem h
    exact Or.inr ⟨a, b, e, hn⟩
  · exact Or.inl h

/-- The text of a rational number. -/
def ratS (q : Rat) : List UInt8 := if q.den = 1 then Lib.itoa q.num else Lib.itoa q.num ++ 47 :: Lib.itoa q.den
def ratB (q : Rat) : ByteArray := strOf (ratS q)
/-- Both parts have at most K digits. -/
def RL (q : Rat) (K : Nat) : Prop := dlen q.num ≤ K ∧ dlen (q.den : Int) ≤ K
theorem RL.mono {q : Rat} {K M : Nat} (h : RL q K) (hk : K ≤ M) : RL q M := ⟨Nat.le_trans h.1 hk, Nat.le_trans h.2 hk⟩
theorem ratS_int {q : Rat} (h : q.den = 1) : ratS q = Lib.itoa q.num := by unfold ratS; rw [if_pos h]
theorem ratS_frac {q : Rat} (h : q.den ≠ 1) : ratS q = Lib.itoa q.num ++ 47 :: Lib.itoa q.den := by unfold ratS; rw [if_neg h]
theorem ratB_int {q : Rat} (h : q.den = 1) : ratB q = itoaB q.num := by unfold ratB; rw [ratS_int h]; rfl
theorem itoaS_inj {x y : Int} (h : Lib.itoa x = Lib.itoa y) : x = y := itoa_inj (by unfold itoaB; rw [h])
theorem cut_rat (q : Rat) : Lib.cut (ratS q) [47] = (Lib.itoa q.num, if q.den = 1 then [] else Lib.itoa q.den, !decide (q.den = 1)) := by
  by_cases h : q.den = 1
  · rw [ratS_int h, cut_miss (nos_itoa _), if_pos h, decide_eq_true h]; rfl
  · rw [ratS_frac h, cut_hit (nos_itoa _), if_neg h, decide_eq_false h]; rfl
theorem ratS_inj {p q : Rat} (h : ratS p = ratS q) : p = q := by
  have h1 := cut_rat p
  rw [h, cut_rat q] at h1
  injection h1 with e1 e2
  injection e2 with e2 e3
  have n := itoaS_inj e1
  by_cases hp : p.den = 1
  · have hq : q.den = 1 := by simpa [hp] using e3
    exact Rat.ext n.symm (by rw [hp, hq])
  · have hq : ¬ q.den = 1 := by intro hq; simp [hp, hq] at e3
    rw [if_neg hp, if_neg hq] at e2
    have := itoaS_inj e2
    exact Rat.ext n.symm (by omega)
theorem ratB_inj {p q : Rat} (h : ratB p = ratB q) : p = q := ratS_inj (by have := congrArg (·.data.toList) h; exact this)
theorem dlen_pos (x : Int) : 0 < dlen x := by unfold dlen; exact List.length_pos_iff.2 (decDigits_ne _)
theorem dlen_one : dlen ((1 : Nat) : Int) = 1 := by decide +kernel
theorem ratS_len (q : Rat) : dlen q.num ≤ (ratS q).length ∧ dlen (q.den : Int) ≤ (ratS q).length ∧ (ratS q).length ≤ dlen q.num + dlen (q.den : Int) + 3 := by
  have h1 := itoa_len q.num
  have h2 := itoa_len (q.den : Int)
  rw [if_neg (by omega)] at h2
  have h3 := dlen_pos q.num
  by_cases h : q.den = 1
  · rw [ratS_int h]
    have : dlen (q.den : Int) = 1 := by rw [h]; exact dlen_one
    split at h1 <;> omega
  · rw [ratS_frac h, List.length_append, List.length_cons]
    split at h1 <;> omega
theorem ratB_size (q : Rat) : (ratB q).size = (ratS q).length := strOf_size _
theorem RL_of_size {q : Rat} {K : Nat} (h : (ratB q).size ≤ K) : RL q K := by
  have := ratS_len q; rw [ratB_size] at h; exact ⟨by omega, by omega⟩
theorem size_of_RL {q : Rat} {K : Nat} (h : RL q K) : (ratB q).size ≤ 2 * K + 3 := by
  have := ratS_len q; obtain ⟨h1, h2⟩ := h; rw [ratB_size]; omega

/-- A text that is one of a right number. -/
def IsRat (l : List UInt8) : Prop := ∃ q : Rat, l = ratS q ∧ RL q 200
theorem rightB_iff {l : List UInt8} : rightB l = true ↔ ∃ x : Int, l = Lib.itoa x ∧ dlen x ≤ 200 := by
  constructor
  · intro h
    unfold rightB at h
    rw [Bool.and_eq_true, decide_eq_true_eq] at h
    obtain ⟨x, e, d⟩ := canon_is_itoa h.1
    exact ⟨x, e, by omega⟩
  · rintro ⟨x, rfl, d⟩
    unfold rightB
    rw [canon_itoa, mag_itoa, Bool.true_and, decide_eq_true_eq]
    exact d
theorem isRat_nos {l : List UInt8} (h : (47 : UInt8) ∉ l) : IsRat l ↔ rightB l = true := by
  rw [rightB_iff]
  constructor
  · rintro ⟨q, rfl, hq⟩
    by_cases hd : q.den = 1
    · exact ⟨q.num, ratS_int hd, hq.1⟩
    · exact absurd (by rw [ratS_frac hd]; simp) h
  · rintro ⟨x, rfl, d⟩
    exact ⟨(x : Rat), (ratS_int (q := (x : Rat)) rfl).symm, d, by show dlen ((1 : Nat) : Int) ≤ 200; rw [dlen_one]; decide⟩
theorem isRat_slash {a b : List UInt8} (h : (47 : UInt8) ∉ a) :
    IsRat (a ++ 47 :: b) ↔ ∃ x y : Int, a = Lib.itoa x ∧ b = Lib.itoa y ∧ dlen x ≤ 200 ∧ dlen y ≤ 200 ∧ x ≠ 0 ∧ 1 < y ∧ Nat.gcd x.natAbs y.natAbs = 1 := by
  constructor
  · rintro ⟨q, e, hq⟩
    have e1 := cut_hit (b := b) h
    rw [e, cut_rat q] at e1
    injection e1 with e1 e2
    injection e2 with e2 e3
    have hd : ¬ q.den = 1 := by simpa using e3
    rw [if_neg hd] at e2
    have hp := q.den_pos
    refine ⟨q.num, q.den, e1.symm, e2.symm, hq.1, hq.2, fun h0 => hd ?_, by omega, q.reduced⟩
    have hr : Nat.gcd q.num.natAbs q.den = 1 := q.reduced
    rw [h0] at hr
    simpa using hr
  · rintro ⟨x, y, rfl, rfl, dx, dy, x0, y1, hg⟩
    refine ⟨⟨x, y.natAbs, by omega, hg⟩, ?_, dx, ?_⟩
    · have hy : ((y.natAbs : Nat) : Int) = y := by omega
      rw [ratS_frac (by show ¬ y.natAbs = 1; omega)]
      show _ = _ ++ 47 :: Lib.itoa ((y.natAbs : Nat) : Int)
      rw [hy]
    · show dlen ((y.natAbs : Nat) : Int) ≤ 200
      rwa [show ((y.natAbs : Nat) : Int) = y by omega]
theorem div_lift (a s k : Nat) (h : k ∣ a) : (a * s) / k = (a / k) * s := by
  obtain ⟨t, rfl⟩ := h
  rcases Nat.eq_zero_or_pos k with h0 | h0
  · subst h0; simp
  · rw [Nat.mul_assoc, Nat.mul_div_cancel_left _ h0, Nat.mul_div_cancel_left _ h0]
/-- The sum by the common divisor of the denominators. -/
theorem add_parts (p q : Rat) (g share again : Nat) (num : Int) (hg : Nat.gcd p.den q.den = g) (hs : q.den / g = share)
    (hn : p.num * (share : Int) + q.num * ((p.den / g : Nat) : Int) = num) (ha : Nat.gcd num.natAbs g = again) :
    (p + q).num = num / (again : Int) ∧ (p + q).den = (p.den / again) * share := by
  have g0 : 0 < g := by rw [← hg]; exact Nat.gcd_pos_of_pos_left _ p.den_pos
  have gp : g ∣ p.den := by rw [← hg]; exact Nat.gcd_dvd_left ..
  have gq : g ∣ q.den := by rw [← hg]; exact Nat.gcd_dvd_right ..
  have aux := Rat.add.aux p q hg.symm rfl hs.symm
  have e1 : p.den / g * g = p.den := Nat.div_mul_cancel gp
  have e2 : share * g = q.den := by rw [← hs]; exact Nat.div_mul_cancel gq
  simp only at aux
  rw [hn, ha] at aux
  have d0 : p.den / g * q.den ≠ 0 := Nat.mul_ne_zero (fun h => by rw [h] at e1; have := p.den_pos; omega) q.den_nz
  have key : p + q = Rat.normalize num (p.den / g * q.den) d0 := by
    rw [Rat.add_def, ← Rat.normalize_mul_left (a := g) d0 (by omega)]
    congr 1
    · rw [← hn, Int.mul_add]
      congr 1
      · rw [← e2]; simp [Int.mul_comm, Int.mul_left_comm]
      · conv => lhs; rw [← e1]
        simp [Int.mul_comm, Int.mul_left_comm]
    · conv => lhs; rw [← e1]
      simp [Nat.mul_comm, Nat.mul_left_comm]
  rw [key]
  refine ⟨by rw [Rat.num_normalize, ← aux], ?_⟩
  rw [Rat.den_normalize, ← aux]
  have e3 : p.den / g * q.den = p.den * share := by
    rw [← e2]
    calc p.den / g * (share * g) = (p.den / g * g) * share := by simp [Nat.mul_comm, Nat.mul_left_comm]
      _ = p.den * share := by rw [e1]
  rw [e3]
  exact div_lift _ _ _ (Nat.dvd_trans (by rw [← ha]; exact Nat.gcd_dvd_right ..) gp)
theorem mul_parts (p q : Rat) : (p * q).num = p.num / ((Nat.gcd p.num.natAbs q.den : Nat) : Int) * (q.num / ((Nat.gcd q.num.natAbs p.den : Nat) : Int)) ∧
    (p * q).den = p.den / Nat.gcd q.num.natAbs p.den * (q.den / Nat.gcd p.num.natAbs q.den) := by
  have h1 : p.num.tdiv ((Nat.gcd p.num.natAbs q.den : Nat) : Int) = p.num / ((Nat.gcd p.num.natAbs q.den : Nat) : Int) :=
    Int.tdiv_eq_ediv_of_dvd (Int.ofNat_dvd_left.2 (Nat.gcd_dvd_left ..))
  have h2 : q.num.tdiv ((Nat.gcd q.num.natAbs p.den : Nat) : Int) = q.num / ((Nat.gcd q.num.natAbs p.den : Nat) : Int) :=
    Int.tdiv_eq_ediv_of_dvd (Int.ofNat_dvd_left.2 (Nat.gcd_dvd_left ..))
  show (Rat.mul p q).num = _ ∧ (Rat.mul p q).den = _
  unfold Rat.mul
  simp only [Int.divExact_eq_tdiv, Nat.divExact_eq_div]
  exact ⟨by rw [h1, h2], trivial⟩
theorem mk_sign (n d : Int) (hd : 0 < d) : (Rat.divInt n d).num.sign = n.sign := by
  have h1 := Rat.num_divInt n d
  rw [Int.sign_eq_one_of_pos hd, Int.one_mul] at h1
  have hg : (0 : Int) < ((d.gcd n : Nat) : Int) := by
    have := Int.gcd_pos_of_ne_zero_left (a := d) n (by omega); omega
  have hdv : ((d.gcd n : Nat) : Int) ∣ n := Int.gcd_dvd_right ..
  obtain ⟨k, hk⟩ := hdv
  have e : (Rat.divInt n d).num = k := by
    rw [h1]
    conv => lhs; lhs; rw [hk]
    exact Int.mul_ediv_cancel_left _ (by omega)
  rw [e, hk, Int.sign_mul, Int.sign_eq_one_of_pos hg, Int.one_mul]
/-- The order of two numbers. -/
theorem sub_sign (p q : Rat) : (p - q).num.sign = (p.num * q.den - q.num * p.den).sign := by
  rw [Rat.sub_def', ← Rat.divInt_ofNat]
  exact mk_sign _ _ (by have := Nat.mul_pos p.den_pos q.den_pos; omega)
theorem rat_mk (q : Rat) : Rat.divInt q.num q.den = q := Rat.num_divInt_den q
theorem add_mk (p q : Rat) : Rat.divInt (p.num * q.den + q.num * p.den) ((p.den * q.den : Nat) : Int) = p + q := by
  rw [Rat.add_def', Rat.divInt_ofNat]
theorem mul_mk (p q : Rat) : Rat.divInt (p.num * q.num) ((p.den * q.den : Nat) : Int) = p * q := by
  rw [Rat.mul_def', Rat.divInt_ofNat]
theorem floor_mk (n d : Int) (hd : 0 < d) : (Rat.divInt n d).floor = n / d := by
  rw [Rat.floor_def]
  have h1 := Rat.num_divInt n d
  have h2 := Rat.den_divInt n d
  rw [Int.sign_eq_one_of_pos hd, Int.one_mul] at h1
  rw [if_neg (by omega)] at h2
  have hg : (0 : Int) < ((d.gcd n : Nat) : Int) := by
    have := Int.gcd_pos_of_ne_zero_left (a := d) n (by omega); omega
  obtain ⟨k, hk⟩ : ((d.gcd n : Nat) : Int) ∣ n := Int.gcd_dvd_right ..
  obtain ⟨m, hm⟩ : ((d.gcd n : Nat) : Int) ∣ d := Int.gcd_dvd_left ..
  have e1 : (Rat.divInt n d).num = k := by
    rw [h1]; conv => lhs; lhs; rw [hk]
    exact Int.mul_ediv_cancel_left _ (by omega)
  have e2 : ((Rat.divInt n d).den : Int) = m := by
    rw [h2, Int.natCast_ediv, show ((d.natAbs : Nat) : Int) = d by omega]
    conv => lhs; lhs; rw [hm]
    exact Int.mul_ediv_cancel_left _ (by omega)
  rw [e1, e2]
  conv => rhs; rw [hk]; 
  conv => rhs; rhs; rw [hm]
  rw [Int.mul_ediv_mul_of_pos _ _ hg]
theorem near_mk (x : Rat) (g : Int) : (x * (g : Rat) + Rat.divInt 1 2).floor = (2 * (x.num * g) + x.den) / (2 * x.den) := by
  have hd := x.den_pos
  rw [← floor_mk _ _ (by omega)]
  congr 1
  have e : x * (g : Rat) = Rat.divInt (x.num * g) x.den := by
    conv => lhs; rw [← Rat.num_divInt_den x]
    rw [show (g : Rat) = Rat.divInt g 1 from (Rat.num_divInt_den (g : Rat)).symm, Rat.divInt_mul_divInt, Int.mul_one]
  rw [e, Rat.divInt_add_divInt _ _ (by omega) (by decide)]
  congr 1
  · rw [Int.mul_comm, Int.one_mul]
  · rw [Int.mul_comm]

theorem dec_val : ∀ (l : List UInt8) (acc : Nat), l.all isDig = true → Lib.decFrom acc l = some (valFrom acc l)
  | [], _, _ => rfl
  | c :: r, acc, h => by
    rw [List.all_cons, Bool.and_eq_true] at h
    have hd := isDig_iff.1 h.1
    have e : Lib.digitVal c = some (c.toNat - 48) := by unfold Lib.digitVal; rw [if_pos ⟨hd.1, hd.2⟩]
    unfold Lib.decFrom
    rw [e, valFrom_cons]
    exact dec_val r _ h.2
theorem decNat_dec (u : Nat) : Lib.decNat (Lib.decDigits u) = some u := by
  unfold Lib.decNat
  rw [if_neg (by rw [List.isEmpty_iff]; exact decDigits_ne u), dec_val _ _ (decDigits_dig u)]
  exact congrArg some (val_decDigits u)
theorem atoi_itoa (n : Int) : Lib.atoi (Lib.itoa n) = some n := by
  by_cases h : n < 0
  · have e : Lib.itoa n = 45 :: Lib.decDigits n.natAbs := by unfold Lib.itoa; rw [if_pos h]
    rw [e]
    unfold Lib.atoi
    dsimp only
    rw [if_pos (by decide), decNat_dec]
    show some (-((n.natAbs : Nat) : Int)) = _
    rw [show -((n.natAbs : Nat) : Int) = n by omega]
  · have e : Lib.itoa n = Lib.decDigits n.toNat := by unfold Lib.itoa; rw [if_neg h]
    have hd := decDigits_dig n.toNat
    have h1 := decNat_dec n.toNat
    rw [e]
    cases hl : Lib.decDigits n.toNat with
    | nil => exact absurd hl (decDigits_ne _)
    | cons c r =>
      rw [hl, List.all_cons, Bool.and_eq_true] at hd
      have hc := isDig_iff.1 hd.1
      have c1 : (c == 45) = false := by rw [beq_eq_false_iff_ne]; rintro rfl; exact absurd hc.1 (by decide)
      have c2 : (c == 43) = false := by rw [beq_eq_false_iff_ne]; rintro rfl; exact absurd hc.1 (by decide)
      unfold Lib.atoi
      simp only [c1, c2, Bool.false_eq_true, if_false]
      rw [← hl, h1]
      show some ((n.toNat : Nat) : Int) = _
      rw [show ((n.toNat : Nat) : Int) = n by omega]
theorem cat_slash (a b : ByteArray) : (a ++ ⟨#[47]⟩ ++ b).data.toList = a.data.toList ++ 47 :: b.data.toList := by
  rw [ByteArray.data_append, ByteArray.data_append, Array.toList_append, Array.toList_append]
  show (_ ++ [47]) ++ _ = _
  rw [List.append_assoc]; rfl
theorem ratB_more {q : Rat} (h : q.den ≠ 1) : ratB q = itoaB q.num ++ ⟨#[47]⟩ ++ itoaB q.den := by
  refine dat_inj ?_
  show ratS q = _
  rw [ratS_frac h, cat_slash]; rfl
theorem dlen_lt (x : Int) (K : Nat) (h : dlen x ≤ K) : x.natAbs < 10 ^ K := Nat.lt_of_lt_of_le (dig_lt x.natAbs) (Nat.pow_le_pow_right (by decide) h)
theorem dlen_le (x : Int) (K : Nat) (hK : 0 < K) (h : x.natAbs < 10 ^ K) : dlen x ≤ K := dec_len_le _ _ h hK
end Go.Proofs.YtgllflfifbacnaaGreatDoor.Kl
