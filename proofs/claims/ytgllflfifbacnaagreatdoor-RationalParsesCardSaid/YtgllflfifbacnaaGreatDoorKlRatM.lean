/- Contract: the reference's Parse, whatever the text. -/
import Derived.Test.YtgllflfifbacnaaGreatDoorKlRatW
import Derived.Test.YtgllflfifbacnaaGreatDoorKlRatH
import Derived.Test.YtgllflfifbacnaaGreatDoorKlKnown2
import Derived.Test.YtgllflfifbacnaaGreatDoorKlRatL
namespace Go.Proofs.YtgllflfifbacnaaGreatDoor.Kl
open Go Go.RowKit

theorem rpc_xf (s T sg : ByteArray) (h0 : 0 < s.size) (S : Sg s T sg h0) (hs : s.size ≤ 1000000) (hT : T.size ≤ 1000000) (c1 : (∀ w, EnvR w → Calls Tryz.prog 91 #[.string T, .string ⟨#[47, 46]⟩] w fun e w' => e = .returned (.int .i64 (-1)) ∧ Below w.heap.size w w')) (c2 : (∀ w, EnvR w → Calls Tryz.prog 92 #[.string T] w fun e w' => e = .returned (.bool false) ∧ Below w.heap.size w w')) (w : World) (R : EnvR w) :
    Calls Tryz.prog 29 #[.string s] w fun e w' => e = .returned (.tuple #[.string ⟨#[]⟩, .int .i64 15]) ∧ Below w.heap.size w w' := by
  rcases S with ⟨rfl, rfl, hp, hm⟩ | ⟨hx, hsg, hp⟩ | ⟨hx, hsg, hp, hm⟩
  · exact rp_nxf s h0 hs hp hm  c1 c2 w R
  · exact rp_pxf s h0 hs T hT hx hp (m_of_p hp)  c1 c2 w R
  · exact rp_mxf s h0 hs T hT hx hp hm  c1 c2 w R
theorem rpc_xl (s T sg : ByteArray) (h0 : 0 < s.size) (S : Sg s T sg h0) (hs : s.size ≤ 1000000) (hT : T.size ≤ 1000000) (hl : 200 < (s.size : Int)) (c1 : (∀ w, EnvR w → Calls Tryz.prog 91 #[.string T, .string ⟨#[47, 46]⟩] w fun e w' => e = .returned (.int .i64 (-1)) ∧ Below w.heap.size w w')) (c2 : (∀ w, EnvR w → Calls Tryz.prog 92 #[.string T] w fun e w' => e = .returned (.bool true) ∧ Below w.heap.size w w')) (w : World) (R : EnvR w) :
    Calls Tryz.prog 29 #[.string s] w fun e w' => e = .returned (.tuple #[.string ⟨#[]⟩, .int .i64 16]) ∧ Below w.heap.size w w' := by
  rcases S with ⟨rfl, rfl, hp, hm⟩ | ⟨hx, hsg, hp⟩ | ⟨hx, hsg, hp, hm⟩
  · exact rp_nxl s h0 hs hp hm hl c1 c2 w R
  · exact rp_pxl s h0 hs T hT hx hp (m_of_p hp) hl c1 c2 w R
  · exact rp_mxl s h0 hs T hT hx hp hm hl c1 c2 w R
theorem rpc_xy (s T sg : ByteArray) (h0 : 0 < s.size) (S : Sg s T sg h0) (hs : s.size ≤ 1000000) (hT : T.size ≤ 1000000) (m m2 res : ByteArray) (hl : (s.size : Int) ≤ 200) (c1 : (∀ w, EnvR w → Calls Tryz.prog 91 #[.string T, .string ⟨#[47, 46]⟩] w fun e w' => e = .returned (.int .i64 (-1)) ∧ Below w.heap.size w w')) (c2 : (∀ w, EnvR w → Calls Tryz.prog 92 #[.string T] w fun e w' => e = .returned (.bool true) ∧ Below w.heap.size w w')) (c3 : (∀ w, EnvR w → Calls Tryz.prog 93 #[.string T] w fun e w' => e = .returned (.string m) ∧ Below w.heap.size w w')) (F0 : sg.data.toList ≠ [45] → (∀ w, EnvR w → Calls Tryz.prog 26 #[.string m, .string ⟨#[49]⟩] w fun e w' => e = .returned (.string res) ∧ Below w.heap.size w w')) (F1 : sg.data.toList = [45] → (∀ w, EnvR w → Calls Tryz.prog 80 #[.string m] w fun e w' => e = .returned (.string m2) ∧ Below w.heap.size w w') ∧ (∀ w, EnvR w → Calls Tryz.prog 26 #[.string m2, .string ⟨#[49]⟩] w fun e w' => e = .returned (.string res) ∧ Below w.heap.size w w')) (w : World) (R : EnvR w) :
    Calls Tryz.prog 29 #[.string s] w fun e w' => e = .returned (.tuple #[.string res, .int .i64 0]) ∧ Below w.heap.size w w' := by
  rcases S with ⟨rfl, rfl, hp, hm⟩ | ⟨hx, hsg, hp⟩ | ⟨hx, hsg, hp, hm⟩
  · exact rp_nxy s h0 hs hp hm m m2 res hl c1 c2 c3 (F0 (by decide)) w R
  · have h45 : s[0] ≠ 45 := by intro e; rw [e] at hp; exact absurd hp (by decide)
    exact rp_pxy s h0 hs T hT hx hp (m_of_p hp) m m2 res hl c1 c2 c3 (F0 (by rw [← hsg, ext01 s h0]; simpa using h45)) w R
  · have h45 : s[0] = 45 := UInt8.toNat.inj (by have h := beq_iff_eq.1 hm; have h45 : (45 : UInt8).toNat = 45 := rfl; omega)
    obtain ⟨N, F⟩ := F1 (by rw [← hsg, ext01 s h0, h45])
    exact rp_mxy s h0 hs T hT hx hp hm m m2 res hl c1 c2 c3 N F w R
theorem rpc_sa (s T sg : ByteArray) (h0 : 0 < s.size) (S : Sg s T sg h0) (hs : s.size ≤ 1000000) (hT : T.size ≤ 1000000) (a r : ByteArray) (k : Nat) (hk : k < T.size) (ha : T.extract 0 k = a) (hr : T.extract (k + 1) T.size = r) (has : a.size ≤ 1000000) (hrs : r.size ≤ 1000000) (c1 : (∀ w, EnvR w → Calls Tryz.prog 91 #[.string T, .string ⟨#[47, 46]⟩] w fun e w' => e = .returned (.int .i64 (k : Int)) ∧ Below w.heap.size w w')) (c2 : (∀ w, EnvR w → Calls Tryz.prog 92 #[.string a] w fun e w' => e = .returned (.bool false) ∧ Below w.heap.size w w')) (w : World) (R : EnvR w) :
    Calls Tryz.prog 29 #[.string s] w fun e w' => e = .returned (.tuple #[.string ⟨#[]⟩, .int .i64 15]) ∧ Below w.heap.size w w' := by
  rcases S with ⟨rfl, rfl, hp, hm⟩ | ⟨hx, hsg, hp⟩ | ⟨hx, hsg, hp, hm⟩
  · exact rp_nsa s h0 hs hp hm a r k hk ha hr has hrs c1 c2 w R
  · exact rp_psa s h0 hs T hT hx hp (m_of_p hp) a r k hk ha hr has hrs c1 c2 w R
  · exact rp_msa s h0 hs T hT hx hp hm a r k hk ha hr has hrs c1 c2 w R
theorem rpc_sb (s T sg : ByteArray) (h0 : 0 < s.size) (S : Sg s T sg h0) (hs : s.size ≤ 1000000) (hT : T.size ≤ 1000000) (a r : ByteArray) (k : Nat) (hk : k < T.size) (ha : T.extract 0 k = a) (hr : T.extract (k + 1) T.size = r) (has : a.size ≤ 1000000) (hrs : r.size ≤ 1000000) (c1 : (∀ w, EnvR w → Calls Tryz.prog 91 #[.string T, .string ⟨#[47, 46]⟩] w fun e w' => e = .returned (.int .i64 (k : Int)) ∧ Below w.heap.size w w')) (c2 : (∀ w, EnvR w → Calls Tryz.prog 92 #[.string a] w fun e w' => e = .returned (.bool true) ∧ Below w.heap.size w w')) (c3 : (∀ w, EnvR w → Calls Tryz.prog 92 #[.string r] w fun e w' => e = .returned (.bool false) ∧ Below w.heap.size w w')) (w : World) (R : EnvR w) :
    Calls Tryz.prog 29 #[.string s] w fun e w' => e = .returned (.tuple #[.string ⟨#[]⟩, .int .i64 15]) ∧ Below w.heap.size w w' := by
  rcases S with ⟨rfl, rfl, hp, hm⟩ | ⟨hx, hsg, hp⟩ | ⟨hx, hsg, hp, hm⟩
  · exact rp_nsb s h0 hs hp hm a r k hk ha hr has hrs c1 c2 c3 w R
  · exact rp_psb s h0 hs T hT hx hp (m_of_p hp) a r k hk ha hr has hrs c1 c2 c3 w R
  · exact rp_msb s h0 hs T hT hx hp hm a r k hk ha hr has hrs c1 c2 c3 w R
theorem rpc_sl (s T sg : ByteArray) (h0 : 0 < s.size) (S : Sg s T sg h0) (hs : s.size ≤ 1000000) (hT : T.size ≤ 1000000) (a r : ByteArray) (k : Nat) (hk : k < T.size) (ha : T.extract 0 k = a) (hr : T.extract (k + 1) T.size = r) (has : a.size ≤ 1000000) (hrs : r.size ≤ 1000000) (hl : 200 < (s.size : Int)) (c1 : (∀ w, EnvR w → Calls Tryz.prog 91 #[.string T, .string ⟨#[47, 46]⟩] w fun e w' => e = .returned (.int .i64 (k : Int)) ∧ Below w.heap.size w w')) (c2 : (∀ w, EnvR w → Calls Tryz.prog 92 #[.string a] w fun e w' => e = .returned (.bool true) ∧ Below w.heap.size w w')) (c3 : (∀ w, EnvR w → Calls Tryz.prog 92 #[.string r] w fun e w' => e = .returned (.bool true) ∧ Below w.heap.size w w')) (w : World) (R : EnvR w) :
    Calls Tryz.prog 29 #[.string s] w fun e w' => e = .returned (.tuple #[.string ⟨#[]⟩, .int .i64 16]) ∧ Below w.heap.size w w' := by
  rcases S with ⟨rfl, rfl, hp, hm⟩ | ⟨hx, hsg, hp⟩ | ⟨hx, hsg, hp, hm⟩
  · exact rp_nsl s h0 hs hp hm a r k hk ha hr has hrs hl c1 c2 c3 w R
  · exact rp_psl s h0 hs T hT hx hp (m_of_p hp) a r k hk ha hr has hrs hl c1 c2 c3 w R
  · exact rp_msl s h0 hs T hT hx hp hm a r k hk ha hr has hrs hl c1 c2 c3 w R
theorem rpc_qz (s T sg : ByteArray) (h0 : 0 < s.size) (S : Sg s T sg h0) (hs : s.size ≤ 1000000) (hT : T.size ≤ 1000000) (m d : ByteArray) (a r : ByteArray) (k : Nat) (hk : k < T.size) (ha : T.extract 0 k = a) (hr : T.extract (k + 1) T.size = r) (has : a.size ≤ 1000000) (hrs : r.size ≤ 1000000) (t47 : ((T[k].toNat : Int) == 47) = true) (t46 : ((T[k].toNat : Int) == 46) = false) (hl : (s.size : Int) ≤ 200) (hd : (d.toList == [48]) = true) (c1 : (∀ w, EnvR w → Calls Tryz.prog 91 #[.string T, .string ⟨#[47, 46]⟩] w fun e w' => e = .returned (.int .i64 (k : Int)) ∧ Below w.heap.size w w')) (c2 : (∀ w, EnvR w → Calls Tryz.prog 92 #[.string a] w fun e w' => e = .returned (.bool true) ∧ Below w.heap.size w w')) (c3 : (∀ w, EnvR w → Calls Tryz.prog 92 #[.string r] w fun e w' => e = .returned (.bool true) ∧ Below w.heap.size w w')) (c4 : (∀ w, EnvR w → Calls Tryz.prog 93 #[.string a] w fun e w' => e = .returned (.string m) ∧ Below w.heap.size w w')) (c5 : (∀ w, EnvR w → Calls Tryz.prog 93 #[.string r] w fun e w' => e = .returned (.string d) ∧ Below w.heap.size w w')) (w : World) (R : EnvR w) :
    Calls Tryz.prog 29 #[.string s] w fun e w' => e = .returned (.tuple #[.string ⟨#[]⟩, .int .i64 17]) ∧ Below w.heap.size w w' := by
  rcases S with ⟨rfl, rfl, hp, hm⟩ | ⟨hx, hsg, hp⟩ | ⟨hx, hsg, hp, hm⟩
  · exact rp_nqz s h0 hs hp hm m d a r k hk ha hr has hrs t47 t46 hl hd c1 c2 c3 c4 c5 w R
  · exact rp_pqz s h0 hs T hT hx hp (m_of_p hp) m d a r k hk ha hr has hrs t47 t46 hl hd c1 c2 c3 c4 c5 w R
  · exact rp_mqz s h0 hs T hT hx hp hm m d a r k hk ha hr has hrs t47 t46 hl hd c1 c2 c3 c4 c5 w R
theorem rpc_qy (s T sg : ByteArray) (h0 : 0 < s.size) (S : Sg s T sg h0) (hs : s.size ≤ 1000000) (hT : T.size ≤ 1000000) (m d m2 res : ByteArray) (a r : ByteArray) (k : Nat) (hk : k < T.size) (ha : T.extract 0 k = a) (hr : T.extract (k + 1) T.size = r) (has : a.size ≤ 1000000) (hrs : r.size ≤ 1000000) (t47 : ((T[k].toNat : Int) == 47) = true) (t46 : ((T[k].toNat : Int) == 46) = false) (hl : (s.size : Int) ≤ 200) (hd : (d.toList == [48]) = false) (c1 : (∀ w, EnvR w → Calls Tryz.prog 91 #[.string T, .string ⟨#[47, 46]⟩] w fun e w' => e = .returned (.int .i64 (k : Int)) ∧ Below w.heap.size w w')) (c2 : (∀ w, EnvR w → Calls Tryz.prog 92 #[.string a] w fun e w' => e = .returned (.bool true) ∧ Below w.heap.size w w')) (c3 : (∀ w, EnvR w → Calls Tryz.prog 92 #[.string r] w fun e w' => e = .returned (.bool true) ∧ Below w.heap.size w w')) (c4 : (∀ w, EnvR w → Calls Tryz.prog 93 #[.string a] w fun e w' => e = .returned (.string m) ∧ Below w.heap.size w w')) (c5 : (∀ w, EnvR w → Calls Tryz.prog 93 #[.string r] w fun e w' => e = .returned (.string d) ∧ Below w.heap.size w w')) (F0 : sg.data.toList ≠ [45] → (∀ w, EnvR w → Calls Tryz.prog 26 #[.string m, .string d] w fun e w' => e = .returned (.string res) ∧ Below w.heap.size w w')) (F1 : sg.data.toList = [45] → (∀ w, EnvR w → Calls Tryz.prog 80 #[.string m] w fun e w' => e = .returned (.string m2) ∧ Below w.heap.size w w') ∧ (∀ w, EnvR w → Calls Tryz.prog 26 #[.string m2, .string d] w fun e w' => e = .returned (.string res) ∧ Below w.heap.size w w')) (w : World) (R : EnvR w) :
    Calls Tryz.prog 29 #[.string s] w fun e w' => e = .returned (.tuple #[.string res, .int .i64 0]) ∧ Below w.heap.size w w' := by
  rcases S with ⟨rfl, rfl, hp, hm⟩ | ⟨hx, hsg, hp⟩ | ⟨hx, hsg, hp, hm⟩
  · exact rp_nqy s h0 hs hp hm m d m2 res a r k hk ha hr has hrs t47 t46 hl hd c1 c2 c3 c4 c5 (F0 (by decide)) w R
  · have h45 : s[0] ≠ 45 := by intro e; rw [e] at hp; exact absurd hp (by decide)
    exact rp_pqy s h0 hs T hT hx hp (m_of_p hp) m d m2 res a r k hk ha hr has hrs t47 t46 hl hd c1 c2 c3 c4 c5 (F0 (by rw [← hsg, ext01 s h0]; simpa using h45)) w R
  · have h45 : s[0] = 45 := UInt8.toNat.inj (by have h := beq_iff_eq.1 hm; have h45 : (45 : UInt8).toNat = 45 := rfl; omega)
    obtain ⟨N, F⟩ := F1 (by rw [← hsg, ext01 s h0, h45])
    exact rp_mqy s h0 hs T hT hx hp hm m d m2 res a r k hk ha hr has hrs t47 t46 hl hd c1 c2 c3 c4 c5 N F w R
theorem rpc_dy (s T sg : ByteArray) (h0 : 0 < s.size) (S : Sg s T sg h0) (hs : s.size ≤ 1000000) (hT : T.size ≤ 1000000) (m0 m z m2 res : ByteArray) (a r : ByteArray) (k : Nat) (hk : k < T.size) (ha : T.extract 0 k = a) (hr : T.extract (k + 1) T.size = r) (has : a.size ≤ 1000000) (hrs : r.size ≤ 1000000) (t47 : ((T[k].toNat : Int) == 47) = false) (t46 : ((T[k].toNat : Int) == 46) = true) (hl : (s.size : Int) ≤ 200) (hz : z.size ≤ 1000000) (hd : ((⟨#[49]⟩ ++ z).toList == [48]) = false) (c1 : (∀ w, EnvR w → Calls Tryz.prog 91 #[.string T, .string ⟨#[47, 46]⟩] w fun e w' => e = .returned (.int .i64 (k : Int)) ∧ Below w.heap.size w w')) (c2 : (∀ w, EnvR w → Calls Tryz.prog 92 #[.string a] w fun e w' => e = .returned (.bool true) ∧ Below w.heap.size w w')) (c3 : (∀ w, EnvR w → Calls Tryz.prog 92 #[.string r] w fun e w' => e = .returned (.bool true) ∧ Below w.heap.size w w')) (c4 : (∀ w, EnvR w → Calls Tryz.prog 93 #[.string a] w fun e w' => e = .returned (.string m0) ∧ Below w.heap.size w w')) (c5 : (∀ w, EnvR w → Calls Tryz.prog 93 #[.string (a ++ r)] w fun e w' => e = .returned (.string m) ∧ Below w.heap.size w w')) (c6 : (∀ w, EnvR w → Calls Tryz.prog 27 #[.string ⟨#[48]⟩, .int .i64 (r.size : Int)] w fun e w' => e = .returned (.string z) ∧ Below w.heap.size w w')) (F0 : sg.data.toList ≠ [45] → (∀ w, EnvR w → Calls Tryz.prog 26 #[.string m, .string (⟨#[49]⟩ ++ z)] w fun e w' => e = .returned (.string res) ∧ Below w.heap.size w w')) (F1 : sg.data.toList = [45] → (∀ w, EnvR w → Calls Tryz.prog 80 #[.string m] w fun e w' => e = .returned (.string m2) ∧ Below w.heap.size w w') ∧ (∀ w, EnvR w → Calls Tryz.prog 26 #[.string m2, .string (⟨#[49]⟩ ++ z)] w fun e w' => e = .returned (.string res) ∧ Below w.heap.size w w')) (w : World) (R : EnvR w) :
    Calls Tryz.prog 29 #[.string s] w fun e w' => e = .returned (.tuple #[.string res, .int .i64 0]) ∧ Below w.heap.size w w' := by
  rcases S with ⟨rfl, rfl, hp, hm⟩ | ⟨hx, hsg, hp⟩ | ⟨hx, hsg, hp, hm⟩
  · exact rp_ndy s h0 hs hp hm m0 m z m2 res a r k hk ha hr has hrs t47 t46 hl hz hd c1 c2 c3 c4 c5 c6 (F0 (by decide)) w R
  · have h45 : s[0] ≠ 45 := by intro e; rw [e] at hp; exact absurd hp (by decide)
    exact rp_pdy s h0 hs T hT hx hp (m_of_p hp) m0 m z m2 res a r k hk ha hr has hrs t47 t46 hl hz hd c1 c2 c3 c4 c5 c6 (F0 (by rw [← hsg, ext01 s h0]; simpa using h45)) w R
  · have h45 : s[0] = 45 := UInt8.toNat.inj (by have h := beq_iff_eq.1 hm; have h45 : (45 : UInt8).toNat = 45 := rfl; omega)
    obtain ⟨N, F⟩ := F1 (by rw [← hsg, ext01 s h0, h45])
    exact rp_mdy s h0 hs T hT hx hp hm m0 m z m2 res a r k hk ha hr has hrs t47 t46 hl hz hd c1 c2 c3 c4 c5 c6 N F w R
/-! ### Which text fails -/
theorem dig_not {l : List UInt8} {c : UInt8} (h : c ∈ l) (hc : isDig c = false) : digB l = false := by
  cases e : digB l with
  | false => rfl
  | true =>
    have := List.all_eq_true.1 (digB_iff.1 e).1 c h
    rw [hc] at this; cases this
theorem dig_app_a {a b : List UInt8} (h : digB a = false) (ha : a ≠ []) : digB (a ++ b) = false := by
  cases e : digB (a ++ b) with
  | false => rfl
  | true =>
    have h1 := (digB_iff.1 e).1
    rw [List.all_append, Bool.and_eq_true] at h1
    rw [digB_iff.2 ⟨h1.1, ha⟩] at h; cases h
theorem dig_app_b {a b : List UInt8} (h : digB b = false) (hb : b ≠ []) : digB (a ++ b) = false := by
  cases e : digB (a ++ b) with
  | false => rfl
  | true =>
    have h1 := (digB_iff.1 e).1
    rw [List.all_append, Bool.and_eq_true] at h1
    rw [digB_iff.2 ⟨h1.2, hb⟩] at h; cases h
/-- A side of the first point or slash is no digits: then the text is none. -/
theorem frac_bad {a b : List UInt8} {c : UInt8} (hc : c = 46 ∨ c = 47) (h1 : (46 : UInt8) ∉ a) (h2 : (47 : UInt8) ∉ a) (h : (digB a && digB b) = false) :
    ∃ n d, fracL (a ++ c :: b) = (n, d) ∧ (digB n && digB d) = false := by
  rcases hc with rfl | rfl
  · by_cases h3 : (47 : UInt8) ∈ b
    · obtain ⟨a', b', e⟩ := frac_both h2 h3
      exact ⟨_, _, e, by rw [dig_not (c := 46) (by simp) (by decide)]; rfl⟩
    · rw [frac_dot h1 h2 h3]
      by_cases h4 : a = [] ∨ b = []
      · rw [if_pos h4]; exact ⟨_, _, rfl, rfl⟩
      · rw [if_neg h4]
        refine ⟨_, _, rfl, ?_⟩
        have : digB (a ++ b) = false := by
          rcases Bool.and_eq_false_iff.1 h with h | h
          · exact dig_app_a h fun e => h4 (.inl e)
          · exact dig_app_b h fun e => h4 (.inr e)
        rw [this]; rfl
  · rw [frac_slash h2]; exact ⟨_, _, rfl, h⟩
theorem dig_no {b : List UInt8} (h : digB b = true) {c : UInt8} (hc : isDig c = false) : c ∉ b := fun e => by
  rw [dig_not e hc] at h; cases h
theorem str_split2 {s : ByteArray} {a b : List UInt8} {c : UInt8} (h : s.data.toList = a ++ c :: b) : s.extract 0 a.length = strOf a ∧ s.extract (a.length + 1) s.size = strOf b ∧ ∃ hk : a.length < s.size, s[a.length] = c := by
  have hl : s.size = a.length + 1 + b.length := by rw [size_len, h, List.length_append, List.length_cons]; omega
  refine ⟨?_, ?_, by omega, ?_⟩
  · refine dat_inj ?_
    rw [← Lib.toList_data, Lib.extract_toList, h]
    show ((a ++ c :: b).drop 0).take (a.length - 0) = a
    simp
  · refine dat_inj ?_
    rw [Lib.extract_to_end, h]
    show (a ++ c :: b).drop (a.length + 1) = b
    rw [List.drop_append]; simp
  · have := Lib.data_getElem? s a.length (by omega)
    rw [h] at this
    simpa using this.symm
theorem val_one0 (p : Nat) : val (49 :: List.replicate p 48) = 10 ^ p := by
  unfold val; rw [valFrom_cons, val_zeros]; simp
theorem dig_one0 (p : Nat) : digB (49 :: List.replicate p 48) = true := by
  rw [digB_iff]
  refine ⟨?_, by simp⟩
  rw [List.all_cons, List.all_eq_true.2 (fun x hx => by rw [List.eq_of_mem_replicate hx]; decide)]
  decide
theorem itoa_zero_eq (n : Nat) : ((itoaB (n : Int)).toList == [48]) = decide (n = 0) := by
  rw [Bool.eq_iff_iff, beq_iff_eq, decide_eq_true_iff, Lib.toList_data]
  constructor
  · intro h
    have h2 : (itoaB 0).data.toList = [48] := by decide +kernel
    have := itoaS_inj (show Lib.itoa (n : Int) = Lib.itoa 0 from h.trans h2.symm)
    omega
  · intro h; rw [h]; decide +kernel
theorem dlen_of_lt (x : Int) (K M : Nat) (hM : 0 < M) (h : x.natAbs < 10 ^ K) (hK : K ≤ M) : dlen x ≤ M := dlen_le x M hM (Nat.lt_of_lt_of_le h (Nat.pow_le_pow_right (by decide) hK))
/-- The quotient that the reference makes of the digits. -/
theorem rp_fin (sl n d : List UInt8) (sg : ByteArray) (hneg : neg sl = decide (sg.data.toList = [45])) (hn : digB n = true) (hd : digB d = true) (hnl : n.length ≤ 400) (hdl : d.length ≤ 400) (hd0 : val d ≠ 0) :
    (sg.data.toList ≠ [45] → ∀ w, EnvR w → Calls Tryz.prog 26 #[.string (itoaB (val n : Nat)), .string (itoaB (val d : Nat))] w fun e w' => e = .returned (.string (ratB (Rat.divInt (numQ sl n) (val d)))) ∧ Below w.heap.size w w') ∧
    (sg.data.toList = [45] → (∀ w, EnvR w → Calls Tryz.prog 80 #[.string (itoaB (val n : Nat))] w fun e w' => e = .returned (.string (itoaB (-(val n : Int)))) ∧ Below w.heap.size w w') ∧
      ∀ w, EnvR w → Calls Tryz.prog 26 #[.string (itoaB (-(val n : Int))), .string (itoaB (val d : Nat))] w fun e w' => e = .returned (.string (ratB (Rat.divInt (numQ sl n) (val d)))) ∧ Below w.heap.size w w') := by
  have v1 := val_lt n (digB_iff.1 hn).1
  have v2 := val_lt d (digB_iff.1 hd).1
  have b1 : ∀ x : Int, x.natAbs = val n → dlen x ≤ 400 := fun x hx => dlen_of_lt x n.length 400 (by decide) (by rw [hx]; exact v1) hnl
  have b2 : dlen (val d : Int) ≤ 400 := dlen_of_lt _ d.length 400 (by decide) (by rw [Int.natAbs_natCast]; exact v2) hdl
  constructor
  · intro h w R
    have e : numQ sl n = (val n : Int) := by unfold numQ; rw [hneg, if_neg (by simpa using h)]
    rw [e]
    exact refFrac_any _ _ w R (Nat.le_trans (b1 _ (by omega)) (by decide)) (Nat.le_trans b2 (by decide)) (by omega)
  · intro h
    have e : numQ sl n = -(val n : Int) := by unfold numQ; rw [hneg, if_pos (by simpa using h)]
    rw [e]
    exact ⟨fun w R => refNeg_any _ w (Nat.le_trans (b1 _ (by omega)) (by decide)), fun w R => refFrac_any _ _ w R (Nat.le_trans (b1 _ (by omega)) (by decide)) (Nat.le_trans b2 (by decide)) (by omega)⟩
theorem ix_none {t : List UInt8} (h1 : (46 : UInt8) ∉ t) (h2 : (47 : UInt8) ∉ t) : Lib.indexAny t [47, 46] = -1 :=
  Lib.indexAny_none fun j b _ hb => by
    have hm := List.mem_of_getElem? hb
    cases e : ([47, 46] : List UInt8).contains b with
    | false => rfl
    | true =>
      rw [List.contains_iff_mem] at e
      simp only [List.mem_cons, List.not_mem_nil, or_false] at e
      rcases e with rfl | rfl
      · exact absurd hm h2
      · exact absurd hm h1
theorem ix_hit {a b : List UInt8} {c : UInt8} (hc : c = 46 ∨ c = 47) (h1 : (46 : UInt8) ∉ a) (h2 : (47 : UInt8) ∉ a) : Lib.indexAny (a ++ c :: b) [47, 46] = a.length :=
  Lib.indexAny_hit (x := c) (fun j y hj hy => by
    rw [List.getElem?_append_left hj] at hy
    have hm := List.mem_of_getElem? hy
    cases e : ([47, 46] : List UInt8).contains y with
    | false => rfl
    | true =>
      rw [List.contains_iff_mem] at e
      simp only [List.mem_cons, List.not_mem_nil, or_false] at e
      rcases e with rfl | rfl
      · exact absurd hm h2
      · exact absurd hm h1) (by simp) (by rcases hc with rfl | rfl <;> decide)
theorem refParse2_any (s : ByteArray) (hs : s.size ≤ 300000) (w : World) (R : EnvR w) :
    Calls Tryz.prog 29 #[.string s] w fun e w' => e = .returned (.tuple #[.string (strOf (parseQ s.data.toList).1), .int .i64 (parseQ s.data.toList).2]) ∧ Below w.heap.size w w' := by
  by_cases h0 : 0 < s.size
  · have hne := ne_of_size s h0
    obtain ⟨T, sg, S, hT, hTs, hsg, hneg⟩ := sg_of s h0
    have I := fun w (R : EnvR w) => indexAny_call T (by omega) w R
    have D : ∀ (x : List UInt8) (b : Bool), x.length ≤ 300000 → digB x = b → ∀ w, EnvR w → Calls Tryz.prog 92 #[.string (strOf x)] w fun e w' => e = .returned (.bool b) ∧ Below w.heap.size w w' := fun x b hx h w R => refDigits_any (strOf x) b h (by rw [strOf_size]; omega) w R
    have PL : ∀ (x : List UInt8), x.length ≤ 300000 → digB x = true → ∀ w, EnvR w → Calls Tryz.prog 93 #[.string (strOf x)] w fun e w' => e = .returned (.string (itoaB (val x : Nat))) ∧ Below w.heap.size w w' := fun x hx h w R => refPlain_any (strOf x) h (by rw [strOf_size]; omega) w R
    have hTl := size_len T
    rcases sep_split T.data.toList with ⟨n1, n2⟩ | ⟨a, c, b, e, hc, n1, n2⟩
    · rw [ix_none n1 n2] at I
      have hf := frac_none n1 n2
      rw [hT] at hf
      have eT : strOf T.data.toList = T := rfl
      have DT : ∀ b, digB T.data.toList = b → ∀ w, EnvR w → Calls Tryz.prog 92 #[.string T] w fun e w' => e = .returned (.bool b) ∧ Below w.heap.size w w' := fun b h => by
        have := D T.data.toList b (by omega) h
        rwa [eT] at this
      cases hd : digB T.data.toList with
      | false =>
        rw [pq_syn hne hf (by rw [← hT, hd]; rfl)]
        exact rpc_xf s T sg h0 S (by omega) (by omega) I (DT _ hd) w R
      | true =>
        by_cases h3 : 200 < s.size
        · rw [pq_long hne hf (by rw [← hT]; exact hd) (by decide) (by rw [← size_len]; exact h3)]
          exact rpc_xl s T sg h0 S (by omega) (by omega) (by omega) I (DT _ hd) w R
        · have hv : val [49] = 1 := by decide
          rw [pq_ok hne hf (by rw [← hT]; exact hd) (by decide) (by rw [← size_len]; exact h3) (by rw [hv]; decide), ← hT]
          have P := PL T.data.toList (by omega) hd
          rw [eT] at P
          have F := rp_fin s.data.toList T.data.toList [49] sg hneg hd (by decide) (by omega) (by decide) (by rw [hv]; decide)
          rw [show itoaB (val [49] : Nat) = ⟨#[49]⟩ from (by rw [hv]; exact itoa_one)] at F
          exact rpc_xy s T sg h0 S (by omega) (by omega) _ _ _ (by omega) I (DT _ hd) P F.1 F.2 w R
    · rw [e, ix_hit hc n1 n2] at I
      obtain ⟨x1, x2, hk, x3⟩ := str_split2 e
      have hl : T.size = a.length + 1 + b.length := by rw [size_len, e, List.length_append, List.length_cons]; omega
      have za : (strOf a).size ≤ 1000000 := by rw [strOf_size]; omega
      have zb : (strOf b).size ≤ 1000000 := by rw [strOf_size]; omega
      cases ha : digB a with
      | false =>
        obtain ⟨n, d, hf, hnd⟩ := frac_bad (b := b) hc n1 n2 (by rw [ha]; rfl)
        rw [← e, hT] at hf
        rw [pq_syn hne hf hnd]
        exact rpc_sa s T sg h0 S (by omega) (by omega) _ _ a.length hk x1 x2 za zb I (D a _ (by omega) ha) w R
      | true =>
        cases hb : digB b with
        | false =>
          obtain ⟨n, d, hf, hnd⟩ := frac_bad (a := a) (b := b) hc n1 n2 (by rw [hb, Bool.and_false])
          rw [← e, hT] at hf
          rw [pq_syn hne hf hnd]
          exact rpc_sb s T sg h0 S (by omega) (by omega) _ _ a.length hk x1 x2 za zb I (D a _ (by omega) ha) (D b _ (by omega) hb) w R
        | true =>
          have m7 := dig_no hb (c := 47) (by decide)
          rcases hc with rfl | rfl
          · have hab : digB (a ++ b) = true := by
              rw [digB_iff, List.all_append, (digB_iff.1 ha).1, (digB_iff.1 hb).1]
              exact ⟨rfl, by simp [(digB_iff.1 ha).2]⟩
            have hf := frac_dot n1 n2 m7
            rw [if_neg (by simp [(digB_iff.1 ha).2, (digB_iff.1 hb).2]), ← e, hT] at hf
            by_cases h3 : 200 < s.size
            · rw [pq_long hne hf hab (dig_one0 _) (by rw [← size_len]; exact h3)]
              exact rpc_sl s T sg h0 S (by omega) (by omega) _ _ a.length hk x1 x2 za zb (by omega) I (D a _ (by omega) ha) (D b _ (by omega) hb) w R
            · have hv := val_one0 b.length
              have hp : 0 < 10 ^ b.length := Nat.pow_pos (by decide)
              rw [pq_ok hne hf hab (dig_one0 _) (by rw [← size_len]; exact h3) (by rw [hv]; omega)]
              have F := rp_fin s.data.toList (a ++ b) (49 :: List.replicate b.length 48) sg hneg hab (dig_one0 _) (by simp; omega) (by simp; omega) (by rw [hv]; omega)
              have et : (⟨#[49]⟩ : ByteArray) ++ strOf (List.replicate b.length 48) = itoaB (val (49 :: List.replicate b.length 48) : Nat) := by rw [hv]; exact pow_text _
              rw [← et] at F
              have P3 := PL (a ++ b) (by simp; omega) hab
              rw [show strOf (a ++ b) = strOf a ++ strOf b from dat_inj (by rw [cat_data]; rfl)] at P3
              have RP := fun w (R : EnvR w) => repeat_call b.length (by omega) w
              rw [show (b.length : Int) = ((strOf b).size : Int) by rw [strOf_size]] at RP
              exact rpc_dy s T sg h0 S (by omega) (by omega) _ _ _ _ _ _ _ a.length hk x1 x2 za zb (by rw [x3]; decide) (by rw [x3]; decide) (by omega) (by rw [strOf_size, List.length_replicate]; omega) (by rw [et, hv, itoa_zero_eq]; exact decide_eq_false (by omega)) I (D a _ (by omega) ha) (D b _ (by omega) hb) (PL a (by omega) ha) P3 RP F.1 F.2 w R
          · have hf := frac_slash (a := a) (b := b) n2
            rw [← e, hT] at hf
            by_cases h3 : 200 < s.size
            · rw [pq_long hne hf ha hb (by rw [← size_len]; exact h3)]
              exact rpc_sl s T sg h0 S (by omega) (by omega) _ _ a.length hk x1 x2 za zb (by omega) I (D a _ (by omega) ha) (D b _ (by omega) hb) w R
            · by_cases h4 : val b = 0
              · rw [pq_zero hne hf ha hb (by rw [← size_len]; exact h3) h4]
                exact rpc_qz s T sg h0 S (by omega) (by omega) _ _ _ _ a.length hk x1 x2 za zb (by rw [x3]; decide) (by rw [x3]; decide) (by omega) (by rw [itoa_zero_eq]; exact decide_eq_true h4) I (D a _ (by omega) ha) (D b _ (by omega) hb) (PL a (by omega) ha) (PL b (by omega) hb) w R
              · rw [pq_ok hne hf ha hb (by rw [← size_len]; exact h3) h4]
                have F := rp_fin s.data.toList a b sg hneg ha hb (by omega) (by omega) h4
                exact rpc_qy s T sg h0 S (by omega) (by omega) _ _ _ _ _ _ a.length hk x1 x2 za zb (by rw [x3]; decide) (by rw [x3]; decide) (by omega) (by rw [itoa_zero_eq]; exact decide_eq_false h4) I (D a _ (by omega) ha) (D b _ (by omega) hb) (PL a (by omega) ha) (PL b (by omega) hb) F.1 F.2 w R
  · obtain rfl := size_zero_eq s (by omega)
    have hb := Below.refl w.heap.size w
    unfold strOf
    go_enter Tryz.func29, Tryz.ntmps29
    go_wp2
    go_ret2
    exact ⟨rfl, hb⟩
end Go.Proofs.YtgllflfifbacnaaGreatDoor.Kl
