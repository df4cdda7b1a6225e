/- The plain mathematics of the program's own pieces: nine digits each. No program in this text. -/
import Derived.Test.YtgllflfifbacnaaGreatDoorKlJoined
import Derived.Test.YtgllflfifbacnaaGreatDoorKlGive
import Derived.Test.YtgllflfifbacnaaGreatDoorKlAdd
namespace Go.Proofs.YtgllflfifbacnaaGreatDoor.Kl
open Go

/-- The pieces of a number, nine digits each. -/
def pcM (n : Nat) : List Int := if h : n = 0 then [] else ((n % 1000000000 : Nat) : Int) :: pcM (n / 1000000000)
termination_by n
decreasing_by omega
theorem pcM_isP (n : Nat) : IsP 1000000000 (pcM n) ∧ pval 1000000000 (pcM n) = n := by
  induction n using Nat.strongRecOn with
  | _ n ih =>
    by_cases h : n = 0
    · subst h; rw [pcM, dif_pos rfl]; exact ⟨⟨fun x hx => by simp at hx, by simp⟩, rfl⟩
    · rw [pcM, dif_neg h]
      obtain ⟨⟨i1, i2⟩, i3⟩ := ih (n / 1000000000) (by omega)
      refine ⟨⟨fun x hx => ?_, ?_⟩, ?_⟩
      · rcases List.mem_cons.1 hx with rfl | hx
        · omega
        · exact i1 x hx
      · cases hr : pcM (n / 1000000000) with
        | nil =>
          rw [hr] at i3
          have : n / 1000000000 = 0 := by have : (0 : Int) = ((n / 1000000000 : Nat) : Int) := i3; omega
          intro e
          simp at e
          omega
        | cons a b => rw [hr] at i2; rw [List.getLast?_cons_cons]; exact i2
      · show ((n % 1000000000 : Nat) : Int) + 1000000000 * pval 1000000000 (pcM (n / 1000000000)) = n
        rw [i3]; omega
theorem eq_pcM {xs : List Int} (h : IsP 1000000000 xs) : xs = pcM (pval 1000000000 xs).toNat := by
  have h0 := pval_nonneg (by decide : (0 : Int) < 1000000000) h.1
  obtain ⟨h1, h2⟩ := pcM_isP (pval 1000000000 xs).toNat
  exact isP_unique (by decide) h h1 (by rw [h2]; omega)
theorem trim_pcM {xs : List Int} (h : Inr 1000000000 xs) : trimP xs = pcM (pval 1000000000 xs).toNat := by
  obtain ⟨h1, h2⟩ := trimP_isP xs.length xs rfl h
  rw [eq_pcM h1, h2]
theorem trim_pcM_of {xs : List Int} (h : Inr 1000000000 xs) (N : Nat) (hN : pval 1000000000 xs = N) : trimP xs = pcM N := by
  rw [trim_pcM h, hN]; rfl
theorem pcM_zero : pcM 0 = [] := by rw [pcM, dif_pos rfl]
theorem pcM_nil {N : Nat} (h : (pcM N).length = 0) : N = 0 := by
  have h1 := (pcM_isP N).2
  rw [List.length_eq_zero_iff.1 h] at h1
  have h2 : (0 : Int) = (N : Int) := h1
  omega
theorem pcM_in (N i : Nat) : 0 ≤ (pcM N)[i]?.getD 0 ∧ (pcM N)[i]?.getD 0 < 1000000000 := by
  rcases h : (pcM N)[i]? with _ | z
  · exact ⟨by decide, by decide⟩
  · exact (pcM_isP N).1.1 z (List.mem_of_getElem? h)
theorem pcM_len (N : Nat) (k : Nat) (h : N < 1000000000 ^ k) : (pcM N).length ≤ k := by
  by_cases h0 : N = 0
  · subst h0; rw [pcM_zero]; exact Nat.zero_le _
  · obtain ⟨hI, hV⟩ := pcM_isP N
    rcases snoc_cases (pcM N) with e | ⟨ys, y, e⟩
    · rw [e]; exact Nat.zero_le _
    · have hy : y ≠ 0 := fun e2 => hI.2 (by rw [e, e2]; simp)
      have hy1 := hI.1 y (by rw [e]; simp)
      have h1 : 0 ≤ pval 1000000000 ys := pval_nonneg (by decide) (fun u hu => hI.1 u (by rw [e]; exact List.mem_append_left _ hu))
      rw [e, pval_append] at hV
      have h2 : (1000000000 : Int) ^ ys.length * 1 ≤ 1000000000 ^ ys.length * pval 1000000000 [y] := Int.mul_le_mul_of_nonneg_left (by show 1 ≤ y + 1000000000 * 0; omega) (Int.le_of_lt (Int.pow_pos (by decide)))
      have h3 : (1000000000 : Int) ^ ys.length ≤ (N : Int) := by omega
      have h4 : 1000000000 ^ ys.length ≤ N := by
        have : ((1000000000 ^ ys.length : Nat) : Int) ≤ (N : Int) := by rw [Int.natCast_pow]; exact h3
        omega
      rw [e, List.length_append]
      have h5 : 1000000000 ^ ys.length < 1000000000 ^ k := Nat.lt_of_le_of_lt h4 h
      have := (Nat.pow_lt_pow_iff_right (by decide : 1 < 1000000000)).1 h5
      simp; omega
theorem pcM_lt (N : Nat) : N < 1000000000 ^ (pcM N).length := by
  have h1 := pval_lt (by decide : (0 : Int) < 1000000000) (pcM_isP N).1.1
  rw [(pcM_isP N).2] at h1
  have : ((1000000000 ^ (pcM N).length : Nat) : Int) = (1000000000 : Int) ^ (pcM N).length := by rw [Int.natCast_pow]; rfl
  omega
theorem pcM_ge (N : Nat) (h : N ≠ 0) : 1000000000 ^ ((pcM N).length - 1) ≤ N := by
  refine Nat.le_of_not_lt fun h1 => ?_
  have h2 := pcM_len N _ h1
  have h3 : (pcM N).length ≠ 0 := fun e => h (pcM_nil e)
  omega
theorem pcM_len_dec (N k : Nat) (h : (Lib.decDigits N).length ≤ k) : (pcM N).length ≤ k := by
  refine pcM_len N k (Nat.lt_of_lt_of_le (dig_lt N) ?_)
  exact Nat.le_trans (Nat.pow_le_pow_right (by decide) h) (Nat.pow_le_pow_left (by decide) k)
theorem pcM_len_mono {N M : Nat} (h : N ≤ M) : (pcM N).length ≤ (pcM M).length := pcM_len N _ (Nat.lt_of_le_of_lt h (pcM_lt M))

theorem cast_pow9 {k V : Nat} (h : V < 1000000000 ^ k) : (V : Int) < (1000000000 : Int) ^ k := by
  have : ((1000000000 ^ k : Nat) : Int) = (1000000000 : Int) ^ k := by rw [Int.natCast_pow]; rfl
  omega

/-- Where a calculation by columns stands behind k columns. -/
structure ColAt (B : Int) (f : Nat → Int) (k : Nat) (o : Int) (out : List Int) : Prop where
  len : out.length = k
  inr : Inr B out
  sum : pval B out + B ^ k * o = psum B f k
theorem col_zero (B : Int) (f : Nat → Int) : ColAt B f 0 0 [] := ⟨rfl, fun x hx => by simp at hx, by simp [pval, psum]⟩
theorem col_step {B : Int} (hB : 0 < B) {f : Nat → Int} {k : Nat} {o : Int} {out : List Int} (h : ColAt B f k o out) : ColAt B f (k + 1) ((o + f k) / B) (out ++ [(o + f k) % B]) := by
  refine ⟨by rw [List.length_append, h.len]; rfl, fun z hz => ?_, ?_⟩
  · rcases List.mem_append.1 hz with hz | hz
    · exact h.inr z hz
    · obtain rfl : z = (o + f k) % B := by simpa using hz
      exact ⟨Int.emod_nonneg _ (by omega), Int.emod_lt_of_pos _ hB⟩
  · rw [pval_append, h.len]
    show pval B out + B ^ k * ((o + f k) % B + B * 0) + B ^ (k + 1) * ((o + f k) / B) = psum B f k + B ^ k * f k
    rw [← h.sum, Int.pow_succ, Int.mul_zero, Int.add_zero, Int.mul_assoc (B ^ k) B, Int.add_assoc, ← Int.mul_add, Int.emod_add_mul_ediv, Int.mul_add, Int.add_assoc]
theorem col_end {B : Int} (hB : 0 < B) {f : Nat → Int} {L : Nat} {o : Int} {out : List Int} (h : ColAt B f L o out) (h0 : 0 ≤ psum B f L) (h1 : psum B f L < B ^ L) : o = 0 ∧ pval B out = psum B f L := by
  have a := pval_nonneg hB h.inr
  have b := pval_lt hB h.inr
  rw [h.len] at b
  have s := h.sum
  have P : 0 < B ^ L := Int.pow_pos hB
  generalize B ^ L = Q at *
  have ho : o = 0 := by
    rcases Int.lt_trichotomy o 0 with c | c | c
    · have : Q * o ≤ Q * (-1) := Int.mul_le_mul_of_nonneg_left (by omega) (by omega)
      omega
    · exact c
    · have : Q * 1 ≤ Q * o := Int.mul_le_mul_of_nonneg_left (by omega) (by omega)
      omega
  subst ho
  exact ⟨rfl, by omega⟩
theorem psum_add2 (B a b : Int) (f g : Nat → Int) : ∀ n, psum B (fun j => a * f j + b * g j) n = a * psum B f n + b * psum B g n
  | 0 => by simp [psum]
  | n + 1 => by
    show psum B (fun j => a * f j + b * g j) n + B ^ n * (a * f n + b * g n) = a * (psum B f n + B ^ n * f n) + b * (psum B g n + B ^ n * g n)
    rw [psum_add2 B a b f g n, Int.mul_add, Int.mul_add, Int.mul_add, Int.mul_left_comm (B ^ n), Int.mul_left_comm (B ^ n)]
    omega
theorem psum_shift (B : Int) (f : Nat → Int) : ∀ n, psum B f (n + 1) = f 0 + B * psum B (fun j => f (j + 1)) n
  | 0 => by simp [psum]
  | n + 1 => by
    show psum B f (n + 1) + B ^ (n + 1) * f (n + 1) = f 0 + B * (psum B (fun j => f (j + 1)) n + B ^ n * f (n + 1))
    rw [psum_shift B f n, Int.mul_add, Int.pow_succ, Int.mul_comm (B ^ n) B, Int.mul_assoc]
    omega
/-- A plain sum. -/
def dsum (f : Nat → Int) : Nat → Int
  | 0 => 0
  | n + 1 => dsum f n + f n
theorem dsum_shift (f : Nat → Int) : ∀ n, dsum f (n + 1) = f 0 + dsum (fun j => f (j + 1)) n
  | 0 => by simp [dsum]
  | n + 1 => by
    show dsum f (n + 1) + f (n + 1) = f 0 + (dsum (fun j => f (j + 1)) n + f (n + 1))
    rw [dsum_shift f n]; omega
theorem dsum_congr {f g : Nat → Int} : ∀ (n : Nat), (∀ j, j < n → f j = g j) → dsum f n = dsum g n
  | 0, _ => rfl
  | n + 1, h => by show dsum f n + f n = dsum g n + g n; rw [dsum_congr n (fun j hj => h j (by omega)), h n (by omega)]
theorem dsum_zero {f : Nat → Int} : ∀ (n : Nat), (∀ j, j < n → f j = 0) → dsum f n = 0
  | 0, _ => rfl
  | n + 1, h => by show dsum f n + f n = 0; rw [dsum_zero n (fun j hj => h j (by omega)), h n (by omega)]; rfl
theorem dsum_more {f : Nat → Int} {n m : Nat} (hnm : n ≤ m) (h : ∀ j, n ≤ j → j < m → f j = 0) : dsum f m = dsum f n := by
  obtain ⟨d, rfl⟩ : ∃ d, m = n + d := ⟨m - n, by omega⟩
  clear hnm
  induction d with
  | zero => rfl
  | succ d ih =>
    show dsum f (n + d) + f (n + d) = _
    rw [ih (fun j h1 h2 => h j h1 (by omega)), h (n + d) (by omega) (by omega)]; omega
/-- A column of a product. -/
def convAt (xs ys : List Int) (k : Nat) (i : Nat) : Int := xs[i]?.getD 0 * ys[k - i]?.getD 0
def conv (xs ys : List Int) (k : Nat) : Int := dsum (convAt xs ys k) (k + 1)
theorem psum_zero' (B : Int) {f : Nat → Int} : ∀ (n : Nat), (∀ j, f j = 0) → psum B f n = 0
  | 0, _ => rfl
  | n + 1, h => by show psum B f n + B ^ n * f n = 0; rw [psum_zero' B n h, h n]; simp
theorem conv_cons (x : Int) (r ys : List Int) (k : Nat) : conv (x :: r) ys k = 1 * (x * ys[k]?.getD 0) + 1 * (match k with | 0 => 0 | m + 1 => conv r ys m) := by
  unfold conv
  rw [dsum_shift]
  have e0 : convAt (x :: r) ys k 0 = x * ys[k]?.getD 0 := by unfold convAt; simp
  rw [e0]
  cases k with
  | zero => simp [dsum]
  | succ m =>
    have : dsum (fun j => convAt (x :: r) ys (m + 1) (j + 1)) (m + 1) = dsum (convAt r ys m) (m + 1) := dsum_congr _ fun j _ => by
      unfold convAt
      rw [List.getElem?_cons_succ, show m + 1 - (j + 1) = m - j by omega]
    rw [this]
    show _ = 1 * (x * ys[m + 1]?.getD 0) + 1 * dsum (convAt r ys m) (m + 1)
    omega
theorem conv_sum (B : Int) (ys : List Int) : ∀ (xs : List Int) (L : Nat), xs.length + ys.length ≤ L → psum B (conv xs ys) L = pval B xs * pval B ys
  | [], L, _ => by
    rw [psum_zero' B (f := conv [] ys) L (fun k => dsum_zero _ fun j _ => by unfold convAt; simp)]
    simp [pval]
  | x :: r, L, h => by
    rw [List.length_cons] at h
    obtain ⟨M, rfl⟩ : ∃ M, L = M + 1 := ⟨L - 1, by omega⟩
    rw [psum_congr B (M + 1) (fun k _ => conv_cons x r ys k), psum_add2 B 1 1]
    rw [psum_shift B (fun k => match k with | 0 => 0 | m + 1 => conv r ys m) M]
    have e1 : psum B (fun j => x * ys[j]?.getD 0) (M + 1) = x * pval B ys := by
      have := psum_add2 B x 0 (fun j => ys[j]?.getD 0) (fun _ => 0) (M + 1)
      rw [← pval_psum B ys (M + 1) (by omega)] at this
      rw [← psum_congr B (M + 1) (fun j _ => show x * ys[j]?.getD 0 + 0 * 0 = x * ys[j]?.getD 0 by omega), this]; omega
    have e2 : psum B (fun j => (match j + 1 with | 0 => (0 : Int) | m + 1 => conv r ys m)) M = pval B r * pval B ys := conv_sum B ys r M (by omega)
    rw [e1, e2]
    show 1 * (x * pval B ys) + 1 * (0 + B * (pval B r * pval B ys)) = (x + B * pval B r) * pval B ys
    rw [Int.add_mul, Int.mul_assoc B]; omega

/-- The last digits of a number, all of them written. -/
def low : Nat → Nat → List UInt8
  | 0, _ => []
  | j + 1, p => UInt8.ofNat (48 + p / 10 ^ j % 10) :: low j p
theorem low_length : ∀ (j p : Nat), (low j p).length = j
  | 0, _ => rfl
  | j + 1, p => by show (low j p).length + 1 = j + 1; rw [low_length j p]
theorem dec_low (N : Nat) : ∀ j, 0 < N / 10 ^ j → Lib.decDigits N = Lib.decDigits (N / 10 ^ j) ++ low j N
  | 0, _ => by simp [low]
  | j + 1, h => by
    have e : N / 10 ^ (j + 1) = N / 10 ^ j / 10 := by rw [Nat.pow_succ, Nat.div_div_eq_div_mul]
    rw [e] at h ⊢
    rw [dec_low N j (by omega), dec_big (u := N / 10 ^ j) (by omega)]
    simp [low]
theorem low_nine (A b : Nat) : low 9 (1000000000 * A + b) = low 9 b := by
  unfold low low low low low low low low low low
  have d : ∀ k, k ∣ 1000000000 → k * 10 ∣ 1000000000 → (1000000000 * A + b) / k % 10 = b / k % 10 := fun k h1 h2 => by
    obtain ⟨q, hq⟩ := h2
    by_cases hk : k = 0
    · subst hk; simp
    · rw [hq, Nat.mul_assoc, Nat.mul_assoc, Nat.mul_add_div (by omega), Nat.mul_add_mod]
  rw [d (10 ^ 8) (by decide) (by decide), d (10 ^ 7) (by decide) (by decide), d (10 ^ 6) (by decide) (by decide), d (10 ^ 5) (by decide) (by decide), d (10 ^ 4) (by decide) (by decide), d (10 ^ 3) (by decide) (by decide), d (10 ^ 2) (by decide) (by decide), d (10 ^ 1) (by decide) (by decide), d (10 ^ 0) (by decide) (by decide)]
theorem dec_nine (A b : Nat) (hA : 0 < A) (hb : b < 1000000000) : Lib.decDigits (1000000000 * A + b) = Lib.decDigits A ++ low 9 b := by
  have e : (1000000000 * A + b) / 10 ^ 9 = A := by
    show (1000000000 * A + b) / 1000000000 = A; omega
  rw [dec_low (1000000000 * A + b) 9 (by rw [e]; exact hA), e, low_nine]
/-- Where the digits of a piece stand, j of them written from the end. -/
def padAt (j p : Nat) : List UInt8 := List.replicate (9 - j) 48 ++ low j p
theorem padAt_step (j p : Nat) (h : j < 9) : (padAt j p).set (8 - j) (UInt8.ofNat (48 + p / 10 ^ j % 10)) = padAt (j + 1) p := by
  unfold padAt
  have e1 : List.replicate (9 - j) (48 : UInt8) = List.replicate (8 - j) 48 ++ [48] := by
    rw [show 9 - j = (8 - j) + 1 by omega, List.replicate_succ']
  rw [e1, List.append_assoc, List.set_append_right _ _ (by rw [List.length_replicate]; exact Nat.le_refl _), List.length_replicate, Nat.sub_self, show 9 - (j + 1) = 8 - j by omega]
  rfl
theorem low_small : ∀ (d j p : Nat), p < 10 ^ j → low (j + d) p = List.replicate d 48 ++ low j p
  | 0, j, p, _ => by simp
  | d + 1, j, p, h => by
    show UInt8.ofNat (48 + p / 10 ^ (j + d) % 10) :: low (j + d) p = _
    have h1 : 10 ^ j ≤ 10 ^ (j + d) := Nat.pow_le_pow_right (by decide) (by omega)
    rw [Nat.div_eq_of_lt (by omega), low_small d j p h, List.replicate_succ]; rfl
theorem padAt_end (j p : Nat) (hj : j ≤ 9) (h : p / 10 ^ j = 0) : padAt j p = low 9 p := by
  have h1 : p < 10 ^ j := by
    have hp : 0 < 10 ^ j := Nat.pow_pos (by decide)
    rcases Nat.lt_or_ge p (10 ^ j) with h2 | h2
    · exact h2
    · have := Nat.div_pos h2 hp; omega
  unfold padAt
  have := low_small (9 - j) j p h1
  rw [show j + (9 - j) = 9 by omega] at this
  exact this.symm
end Go.Proofs.YtgllflfifbacnaaGreatDoor.Kl
