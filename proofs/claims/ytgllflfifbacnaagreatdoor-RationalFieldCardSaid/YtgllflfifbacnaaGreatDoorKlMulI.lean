/- Contracts: DivMod, Gcd, Mul where both are ints of at most 18 bytes. -/
import Derived.Test.YtgllflfifbacnaaGreatDoorKlInt
import Derived.Test.YtgllflfifbacnaaGreatDoorKlNPlus
import Derived.Test.YtgllflfifbacnaaGreatDoorKlTextM
import Derived.Test.YtgllflfifbacnaaGreatDoorKlAdd
import Derived.Test.YtgllflfifbacnaaGreatDoorKlTimes
import Derived.Deep.RegionHeld3
namespace Go.Proofs.YtgllflfifbacnaaGreatDoor.Kl
open Go Go.RowKit

theorem retSSI {k : IntKind} {a b c d : ByteArray} {x y : Int} (h : a = b) (g : c = d) (i : x = y) : Ending.returned (.tuple #[.string a, .string c, .int k x]) = .returned (.tuple #[.string b, .string d, .int k y]) := by rw [h, g, i]

set_option maxHeartbeats 1000000 in
theorem divMod_short (s t : ByteArray) (w : World) (hs : s.size ≤ 18) (ht : t.size ≤ 18) (x y : Int) (hx : smallV s.data.toList = some x) (hy : smallV t.data.toList = some y) (E : Env w)
    (hx0 : -1000000000000000000 < x) (hx1 : x < 1000000000000000000) (hy0 : -1000000000000000000 < y) (hy1 : y < 1000000000000000000) (hyz : y ≠ 0) :
    Calls Tryz.prog 130 #[.string s, .string t] w fun e w' => e = .returned (.tuple #[.string (itoaB (x / y)), .string (itoaB (x % y)), .int .i64 0]) ∧ Below w.heap.size w w' := by
  have hy' : (y == 0) = false := by simpa using hyz
  have hb := Below.refl w.heap.size w
  have HX := Lib.hid hx
  have HY := Lib.hid hy
  clear hx hy
  have q : -1000000000000000000 < x / y ∧ x / y < 1000000000000000000 := by have := Int.natAbs_ediv_le_natAbs x y; omega
  have r : 0 ≤ x % y ∧ x % y < 1000000000000000000 := by have h1 := Int.emod_nonneg x hyz; have h2 := Int.emod_lt x hyz; omega
  go_enter Tryz.func130, Tryz.ntmps130
  go_wp2_with (first | (go_at_call 122; refine (chain hb (ints_short _ _ _ hs ht _ _ HX.out HY.out (E.below hb))).mono ?_; clear hb; rintro e w1 ⟨rfl, hb⟩) | (go_at_call 176; refine (chain hb (divideInts_any _ _ _ hx0 hx1 hy0 hy1 hyz)).mono ?_; clear hb; rintro e w1 ⟨rfl, hb⟩) | (go_at_call 77; refine (chain hb (of_any _ (by omega) (by omega) _ (E.below hb))).mono ?_; clear hb; rintro e w1 ⟨rfl, hb⟩))
  go_ret3
  exact ⟨retSSI rfl rfl rfl, hb⟩

/-- The greatest common divisor of magnitudes, as the walk spells them. -/
theorem gcdInts_max (x y : Int) (w : World) (hx0 : -1000000000000000000 < x) (hx1 : x < 1000000000000000000) (hy0 : -1000000000000000000 < y) (hy1 : y < 1000000000000000000) :
    Calls Tryz.prog 123 #[.int .i64 (max x (-x)), .int .i64 (max y (-y))] w fun e w' => e = .returned (.int .i64 (Nat.gcd x.natAbs y.natAbs)) ∧ Below w.heap.size w w' := by
  have e1 : max x (-x) = (x.natAbs : Int) := by omega
  have e2 : max y (-y) = (y.natAbs : Int) := by omega
  rw [e1, e2]
  exact gcdInts_any _ _ w (by omega) (by omega)

set_option maxHeartbeats 1000000 in
theorem gcd_short (s t : ByteArray) (w : World) (hs : s.size ≤ 18) (ht : t.size ≤ 18) (x y : Int) (hx : smallV s.data.toList = some x) (hy : smallV t.data.toList = some y) (E : Env w)
    (hx0 : -1000000000000000000 < x) (hx1 : x < 1000000000000000000) (hy0 : -1000000000000000000 < y) (hy1 : y < 1000000000000000000) :
    Calls Tryz.prog 67 #[.string s, .string t] w fun e w' => e = .returned (.string (itoaB (Nat.gcd x.natAbs y.natAbs))) ∧ Below w.heap.size w w' := by
  have hb := Below.refl w.heap.size w
  have hg : (Nat.gcd x.natAbs y.natAbs : Int) ≤ 1000000000000000000 := by
    rcases Nat.eq_zero_or_pos x.natAbs with e | e
    · rw [e, Nat.gcd_zero_left]; omega
    · have := Nat.gcd_le_left y.natAbs e; omega
  have HX := Lib.hid hx
  have HY := Lib.hid hy
  clear hx hy
  go_enter Tryz.func67, Tryz.ntmps67
  go_wp2_with (first | (go_at_call 122; refine (chain hb (ints_short _ _ _ hs ht _ _ HX.out HY.out (E.below hb))).mono ?_; clear hb; rintro e w1 ⟨rfl, hb⟩) | (go_at_call 123; refine (chain hb (gcdInts_max _ _ _ hx0 hx1 hy0 hy1)).mono ?_; clear hb; rintro e w1 ⟨rfl, hb⟩) | (go_at_call 77; refine (chain hb (of_any _ (by omega) (by omega) _ (E.below hb))).mono ?_; clear hb; rintro e w1 ⟨rfl, hb⟩))
  go_ret
  exact ⟨retS rfl, hb⟩

set_option maxHeartbeats 1000000 in
theorem mul_short (s t : ByteArray) (w : World) (hst : s.size + t.size ≤ 18) (x y : Int) (hx : smallV s.data.toList = some x) (hy : smallV t.data.toList = some y) (E : Env w)
    (h0 : -9223372036854775808 ≤ x * y) (h1 : x * y ≤ 9223372036854775807) :
    Calls Tryz.prog 146 #[.string s, .string t] w fun e w' => e = .returned (.string (itoaB (x * y))) ∧ Below w.heap.size w w' := by
  have hb := Below.refl w.heap.size w
  have HX := Lib.hid hx
  have HY := Lib.hid hy
  clear hx hy
  go_enter Tryz.func146, Tryz.ntmps146
  go_wp2_with (first | (go_at_call 122; refine (chain hb (ints_short _ _ _ (by omega) (by omega) _ _ HX.out HY.out (E.below hb))).mono ?_; clear hb; rintro e w1 ⟨rfl, hb⟩) | (go_at_call 77; refine (chain hb (of_any _ (by omega) (by omega) _ (E.below hb))).mono ?_; clear hb; rintro e w1 ⟨rfl, hb⟩))
  go_ret
  exact ⟨retS rfl, hb⟩
end Go.Proofs.YtgllflfifbacnaaGreatDoor.Kl
/- Contracts: the program's Add and Sub on the texts of integers. -/
namespace Go.Proofs.YtgllflfifbacnaaGreatDoor.Kl
open Go Go.RowKit

theorem sgI_abs {b : Bool} {N : Nat} {z : Int} (h : sgI b N = z) : N = z.natAbs := by
  cases b
  · rw [sgI_f] at h; omega
  · rw [sgI_t] at h; omega
theorem chainN {P : Program} {K : FuncId} {args : Array Value} {w w0 : World} {z : Int} (hb : Below w0.heap.size w0 w) (h : Calls P K args w (RetN w z)) :
    Calls P K args w fun e w' => ∃ b p n c, e = .returned (.agg #[.bool b, .slice p n c]) ∧ Hid (Sm w' p n c z.natAbs ∧ sgI b z.natAbs = z ∧ Below w.heap.size w w') ∧ Below w0.heap.size w0 w' :=
  h.mono fun _ _ ⟨b, p, n, c, N, e, h1, h2, h3⟩ => ⟨b, p, n, c, e, Lib.hid (by rw [← sgI_abs h2]; exact ⟨h1, h2, h3⟩), hb.trans (h3.mono hb.size)⟩
theorem nplus_z {b1 b2 : Bool} {p q : Option Addr} {n c m d X Y : Nat} {w : World} {x y : Int} (h1 : Sm w p n c X) (h2 : Sm w q m d Y) (e1 : sgI b1 X = x) (e2 : sgI b2 Y = y) (hX : (pcM X).length ≤ 100000) (hY : (pcM Y).length ≤ 100000) :
    Calls Tryz.prog 192 #[.agg #[.bool b1, .slice p n c], .agg #[.bool b2, .slice q m d]] w (RetN w (x + y)) := by
  subst e1 e2; exact nplus_any b1 b2 p q n c m d X Y w h1 h2 hX hY
theorem text_z {b : Bool} {p : Option Addr} {n c X : Nat} {w : World} {z : Int} (E : Env w) (h : Sm w p n c X) (e : sgI b X = z) (hX : (pcM X).length ≤ 100000) :
    Calls Tryz.prog 126 #[.agg #[.bool b, .slice p n c]] w fun e w' => e = .returned (.string (itoaB z)) ∧ Below w.heap.size w w' := by
  subst e; exact text_sm b p n c X w E h hX
theorem pcM_len_z (z : Int) (h : dlen z ≤ 90000) : (pcM z.natAbs).length ≤ 100000 := by
  unfold dlen at h
  have := pcM_len_dec z.natAbs 90000 h; omega
theorem dlen_add (x y : Int) (K : Nat) (hK : 0 < K) (hx : dlen x ≤ K) (hy : dlen y ≤ K) : dlen (x + y) ≤ K + 1 := dec_add_len K x.natAbs y.natAbs _ hK hx hy (by omega)

set_option maxHeartbeats 1000000 in
theorem ints_long (s t : ByteArray) (w : World) (h : 18 < max (s.size : Int) (t.size : Int)) :
    Calls Tryz.prog 122 #[.string s, .string t] w fun e w' => e = .returned (.tuple #[.int .i64 0, .int .i64 0, .bool false]) ∧ Below w.heap.size w w' := by
  go_enter Tryz.func122, Tryz.ntmps122
  go_wp2
  go_ret3
  exact ⟨rfl, Below.refl _ _⟩
theorem short_bound (x : Int) (h : (itoaB x).size ≤ 18) : -1000000000000000000 < x ∧ x < 1000000000000000000 := by
  unfold itoaB at h
  rw [strOf_size, itoa_len] at h
  have h1 : dlen x ≤ 18 := by split at h <;> omega
  unfold dlen at h1
  have h2 : x.natAbs < 10 ^ 18 := Nat.lt_of_lt_of_le (dig_lt _) (Nat.pow_le_pow_right (by decide) h1)
  have h3 : x.natAbs < 1000000000000000000 := h2
  omega
theorem short_small (x : Int) (h : (itoaB x).size ≤ 18) : smallV (itoaB x).data.toList = some x := by
  have := short_bound x h
  rw [itoaB_data]; exact smallV_itoa x (by omega) (by omega)
set_option maxRecDepth 100000 in
set_option maxHeartbeats 2000000 in
/-- The program's sum. -/
theorem add_any (x y : Int) (w : World) (E : Env w) (hx : dlen x ≤ 40000) (hy : dlen y ≤ 40000) :
    Calls Tryz.prog 147 #[.string (itoaB x), .string (itoaB y)] w fun e w' => e = .returned (.string (itoaB (x + y))) ∧ Below w.heap.size w w' := by
  by_cases hs : (itoaB x).size ≤ 18 ∧ (itoaB y).size ≤ 18
  · have bx := short_bound x hs.1
    have b2 := short_bound y hs.2
    have k1 : ∀ w, Env w → Calls Tryz.prog 122 #[.string (itoaB x), .string (itoaB y)] w fun e w' => e = .returned (.tuple #[.int .i64 x, .int .i64 y, .bool true]) ∧ Below w.heap.size w w' := fun w E => ints_short _ _ w hs.1 hs.2 x y (short_small x hs.1) (short_small y hs.2) E
    obtain ⟨a, ha⟩ : ∃ a, itoaB x = a := ⟨_, rfl⟩
    obtain ⟨b, hb'⟩ : ∃ b, itoaB y = b := ⟨_, rfl⟩
    rw [ha, hb'] at k1 ⊢
    have K1 := Lib.hid k1
    clear k1 ha hb' hs hx hy
    have hb := Below.refl w.heap.size w
    go_enter Tryz.func147, Tryz.ntmps147
    go_wp2_with (first | (go_at_call 122; refine (chain hb (K1.out _ (E.below hb))).mono ?_; clear hb; rintro e w1 ⟨rfl, hb⟩) | (go_at_call 77; refine (chain hb (of_any _ (by omega) (by omega) _ (E.below hb))).mono ?_; clear hb; rintro e w1 ⟨rfl, hb⟩))
    go_ret
    exact ⟨rfl, hb⟩
  · have hm : 18 < max ((itoaB x).size : Int) ((itoaB y).size : Int) := by omega
    have k1 : ∀ w, Calls Tryz.prog 122 #[.string (itoaB x), .string (itoaB y)] w fun e w' => e = .returned (.tuple #[.int .i64 0, .int .i64 0, .bool false]) ∧ Below w.heap.size w w' := fun w => ints_long _ _ w hm
    have r1 : ∀ w, Calls Tryz.prog 124 #[.string (itoaB x)] w (RetN w x) := fun w => read_itoa x w (by omega)
    have r2 : ∀ w, Calls Tryz.prog 124 #[.string (itoaB y)] w (RetN w y) := fun w => read_itoa y w (by omega)
    have HX := Lib.hid (pcM_len_z x (by omega))
    have HY := Lib.hid (pcM_len_z y (by omega))
    have HZ := Lib.hid (pcM_len_z (x + y) (by have := dlen_add x y 40000 (by decide) hx hy; omega))
    obtain ⟨a, ha⟩ : ∃ a, itoaB x = a := ⟨_, rfl⟩
    obtain ⟨b, hb'⟩ : ∃ b, itoaB y = b := ⟨_, rfl⟩
    rw [ha, hb'] at k1
    rw [ha] at r1
    rw [hb'] at r2
    rw [ha, hb']
    have K1 := Lib.hid k1
    have R1 := Lib.hid r1
    have R2 := Lib.hid r2
    clear k1 r1 r2 ha hb' hs hx hy hm
    have hb := Below.refl w.heap.size w
    go_enter Tryz.func147, Tryz.ntmps147
    go_wp2_with (first | (go_at_call 122; refine (chain hb (K1.out _)).mono ?_; clear hb; rintro e w1 ⟨rfl, hb⟩) | (go_at_call 124; first | (with_reducible refine (chainN hb (R1.out _)).mono ?_; clear hb; rintro e w1 ⟨b1, p1, n1, c1, rfl, hs1, hb⟩) | (with_reducible refine (chainN hb (R2.out _)).mono ?_; clear hb; rintro e w2 ⟨b2, p2, n2, c2, rfl, hs2, hb⟩)) | (go_at_call 192; refine (chainN hb (nplus_z (hs1.out.1.below hs2.out.2.2) hs2.out.1 hs1.out.2.1 hs2.out.2.1 HX.out HY.out)).mono ?_; clear hb; rintro e w3 ⟨b3, p3, n3, c3, rfl, hs3, hb⟩) | (go_at_call 126; refine (chain hb (text_z (E.below hb) hs3.out.1 hs3.out.2.1 HZ.out)).mono ?_; clear hb; rintro e w4 ⟨rfl, hb⟩))
    go_ret
    exact ⟨rfl, hb⟩
end Go.Proofs.YtgllflfifbacnaaGreatDoor.Kl
/- Contracts: the program's Mul on the texts of integers. -/
namespace Go.Proofs.YtgllflfifbacnaaGreatDoor.Kl
open Go Go.RowKit

theorem sgI_mul {b1 b2 : Bool} {X Y : Nat} {x y : Int} (h1 : sgI b1 X = x) (h2 : sgI b2 Y = y) : sgI (b1 != b2) (X * Y) = x * y := by
  subst h1 h2
  cases b1 <;> cases b2
  · show ((X * Y : Nat) : Int) = (X : Int) * Y; rw [Int.natCast_mul]
  · show -((X * Y : Nat) : Int) = (X : Int) * -(Y : Int); rw [Int.natCast_mul, Int.mul_neg]
  · show -((X * Y : Nat) : Int) = -(X : Int) * (Y : Int); rw [Int.natCast_mul, Int.neg_mul]
  · show ((X * Y : Nat) : Int) = -(X : Int) * -(Y : Int); rw [Int.natCast_mul, Int.neg_mul_neg]
theorem dec_mul_len (K M N X : Nat) (hK : 0 < K + M) (h1 : (Lib.decDigits N).length ≤ K) (h2 : (Lib.decDigits X).length ≤ M) : (Lib.decDigits (N * X)).length ≤ K + M := by
  refine dec_len_le _ _ ?_ hK
  have a := Nat.lt_of_lt_of_le (dig_lt N) (Nat.pow_le_pow_right (by decide) h1)
  have b := Nat.lt_of_lt_of_le (dig_lt X) (Nat.pow_le_pow_right (by decide) h2)
  rw [Nat.pow_add]
  exact Nat.mul_lt_mul'' a b
theorem dlen_mul (x y : Int) (K M : Nat) (hK : 0 < K + M) (hx : dlen x ≤ K) (hy : dlen y ≤ M) : dlen (x * y) ≤ K + M := by
  unfold dlen at *; rw [Int.natAbs_mul]; exact dec_mul_len K M _ _ hK hx hy

set_option maxRecDepth 100000 in
set_option maxHeartbeats 4000000 in
theorem mul_long (x y : Int) (w : World) (E : Env w) (hs : 18 < (itoaB x).size + (itoaB y).size) (hx : dlen x ≤ 40000) (hy : dlen y ≤ 40000) :
    Calls Tryz.prog 146 #[.string (itoaB x), .string (itoaB y)] w fun e w' => e = .returned (.string (itoaB (x * y))) ∧ Below w.heap.size w w' := by
  have hm : (18 : Int) < (itoaB x).size + (itoaB y).size := by omega
  have hza : (itoaB x).size ≤ 100001 := itoaB_size x (by omega)
  have hzb : (itoaB y).size ≤ 100001 := itoaB_size y (by omega)
  have r1 : ∀ w, Calls Tryz.prog 124 #[.string (itoaB x)] w (RetN w x) := fun w => read_itoa x w (by omega)
  have r2 : ∀ w, Calls Tryz.prog 124 #[.string (itoaB y)] w (RetN w y) := fun w => read_itoa y w (by omega)
  have HX := Lib.hid (pcM_len_z x (by omega))
  have HY := Lib.hid (pcM_len_z y (by omega))
  have HZ : Hid ((pcM (x.natAbs * y.natAbs)).length ≤ 100000) := Lib.hid (by
    have := pcM_len_z (x * y) (by have := dlen_mul x y 40000 40000 (by decide) hx hy; omega); rwa [Int.natAbs_mul] at this)
  obtain ⟨a, ha⟩ : ∃ a, itoaB x = a := ⟨_, rfl⟩
  obtain ⟨b, hb'⟩ : ∃ b, itoaB y = b := ⟨_, rfl⟩
  rw [ha] at r1
  rw [hb'] at r2
  rw [ha, hb'] at hm ⊢
  rw [ha] at hza
  rw [hb'] at hzb
  have R1 := Lib.hid r1
  have R2 := Lib.hid r2
  clear r1 r2 ha hb' hs hx hy
  have hb := Below.refl w.heap.size w
  go_enter Tryz.func146, Tryz.ntmps146
  go_wp2_with (first | (go_at_call 124; first | (with_reducible refine (chainN hb (R1.out _)).mono ?_; clear hb; rintro e w1 ⟨b1, p1, n1, c1, rfl, hs1, hb⟩) | (with_reducible refine (chainN hb (R2.out _)).mono ?_; clear hb; rintro e w2 ⟨b2, p2, n2, c2, rfl, hs2, hb⟩)))
  obtain ⟨W3, hW3⟩ : ∃ W3, (w2.alloc (Obj.cells #[Value.bool b1, Value.slice p1 n1 c1] 122)).alloc (Obj.cells #[Value.bool b2, Value.slice p2 n2 c2] 122) = W3 := ⟨_, rfl⟩
  have hs3 : W3.heap.size = w2.heap.size + 2 := by rw [← hW3]; simp only [World.size_alloc]
  have k0 : W3.heap[w2.heap.size]? = some (Obj.cells #[Value.bool b1, Value.slice p1 n1 c1] 122 (0, 0)) := by rw [← hW3, Below.heap_alloc _ _ _ (by simp)]; exact World.alloc_heap_new w2 _
  have k1 : W3.heap[w2.heap.size + 1]? = some (Obj.cells #[Value.bool b2, Value.slice p2 n2 c2] 122 (0, 0)) := by
    rw [← hW3]
    have := World.alloc_heap_new (w2.alloc (Obj.cells #[Value.bool b1, Value.slice p1 n1 c1] 122)) (Obj.cells #[Value.bool b2, Value.slice p2 n2 c2] 122)
    rwa [World.size_alloc] at this
  have hb23 : Below w2.heap.size w2 W3 := by rw [← hW3]; exact ((Below.refl _ _).alloc (Nat.le_refl _) _).alloc (by simp) _
  have hb3 : Below w.heap.size w W3 := hb.trans (hb23.mono hb.size)
  rw [hW3]
  clear hW3
  have f0 : W3.cell? ⟨w2.heap.size, 0, none⟩ = some (Value.bool b1) := cell_at k0
  have f1 : W3.cell? ⟨w2.heap.size, 1, none⟩ = some (Value.slice p1 n1 c1) := cell_at k0
  have f2 : W3.cell? ⟨w2.heap.size + 1, 0, none⟩ = some (Value.bool b2) := cell_at k1
  have f3 : W3.cell? ⟨w2.heap.size + 1, 1, none⟩ = some (Value.slice p2 n2 c2) := cell_at k1
  have hsx := hs1.out
  have hsy := hs2.out
  have ct : Calls Tryz.prog 191 #[.slice p1 n1 c1, .slice p2 n2 c2] W3.drew (RetP W3.drew (pcM (x.natAbs * y.natAbs))) :=
    times_sm (((hsx.1.below hsy.2.2).below hb23).below (Below.refl _ _).drew) ((hsy.1.below hb23).below (Below.refl _ _).drew) HX.out HY.out
  have CT := Lib.hid ct
  have SG := Lib.hid (sgI_mul hsx.2.1 hsy.2.1)
  have HB3 := Lib.hid hb3
  have HS3 := Lib.hid hs3
  clear ct hsx hsy hs1 hs2 hb hb23 hb3 hs3 k0 k1 R1 R2
  go_region_held3 (fun w' => w'.cell? ⟨w2.heap.size, 0, none⟩ = some (Value.bool b1) ∧ w'.cell? ⟨w2.heap.size, 1, none⟩ = some (Value.slice p1 n1 c1) ∧ w'.cell? ⟨w2.heap.size + 1, 0, none⟩ = some (Value.bool b2) ∧ w'.cell? ⟨w2.heap.size + 1, 1, none⟩ = some (Value.slice p2 n2 c2))
    (first | go_keep | exact ⟨g0, g1, g2, g3⟩ | exact ⟨i0, i1, i2, i3⟩)
    (first | (go_at_call 191; refine CT.out.mono ?_; rintro e w5 ⟨r5, n5, c5, rfl, hr5⟩; have hb5 := hr5.2.2.2.2.2; have HR := Lib.hid hr5; clear hr5; have g0 := (hb5.cell (p := ⟨w2.heap.size, 0, none⟩) (by have := HS3.out; show w2.heap.size < W3.heap.size; omega)).trans f0; have g1 := (hb5.cell (p := ⟨w2.heap.size, 1, none⟩) (by have := HS3.out; show w2.heap.size < W3.heap.size; omega)).trans f1; have g2 := (hb5.cell (p := ⟨w2.heap.size + 1, 0, none⟩) (by have := HS3.out; show w2.heap.size + 1 < W3.heap.size; omega)).trans f2; have g3 := (hb5.cell (p := ⟨w2.heap.size + 1, 1, none⟩) (by have := HS3.out; show w2.heap.size + 1 < W3.heap.size; omega)).trans f3; have HB5 : Hid (Below w.heap.size w w5) := Lib.hid (HB3.out.drew.trans (hb5.mono (by exact HB3.out.size))); have HZ5 : Hid (w2.heap.size + 2 ≤ w5.heap.size) := Lib.hid (by have h1 := hb5.size; have h2 := HS3.out; change W3.heap.size ≤ _ at h1; omega); clear hb5) | (go_at_call 126; refine (text_z (E.below HB5.out) (⟨HR.out.1, HR.out.2.1, HR.out.2.2.1, HR.out.2.2.2.1, HR.out.2.2.2.2.1⟩ : Sm w5 r5 n5 c5 _) SG.out HZ.out).mono ?_; rintro e w6 ⟨rfl, hb6⟩; have i0 := (hb6.cell (p := ⟨w2.heap.size, 0, none⟩) (by have := HZ5.out; show w2.heap.size < w5.heap.size; omega)).trans g0; have i1 := (hb6.cell (p := ⟨w2.heap.size, 1, none⟩) (by have := HZ5.out; show w2.heap.size < w5.heap.size; omega)).trans g1; have i2 := (hb6.cell (p := ⟨w2.heap.size + 1, 0, none⟩) (by have := HZ5.out; show w2.heap.size + 1 < w5.heap.size; omega)).trans g2; have i3 := (hb6.cell (p := ⟨w2.heap.size + 1, 1, none⟩) (by have := HZ5.out; show w2.heap.size + 1 < w5.heap.size; omega)).trans g3; have HB6 : Hid (Below w.heap.size w w6) := Lib.hid (HB5.out.trans (hb6.mono HB5.out.size)); clear hb6))

  go_wp2
  go_ret
  exact ⟨rfl, HB6.out⟩
/-- The program's product. -/
theorem mul_any (x y : Int) (w : World) (E : Env w) (hx : dlen x ≤ 40000) (hy : dlen y ≤ 40000) :
    Calls Tryz.prog 146 #[.string (itoaB x), .string (itoaB y)] w fun e w' => e = .returned (.string (itoaB (x * y))) ∧ Below w.heap.size w w' := by
  by_cases hs : (itoaB x).size + (itoaB y).size ≤ 18
  · have bx : dlen x + dlen y ≤ 18 := by
      have h1 := itoa_len x; have h2 := itoa_len y
      unfold itoaB at hs; rw [strOf_size, strOf_size] at hs; omega
    have hp := dlen_mul x y (dlen x) (dlen y) (by have := List.length_pos_iff.2 (decDigits_ne x.natAbs); unfold dlen; omega) (Nat.le_refl _) (Nat.le_refl _)
    have h2 : (x * y).natAbs < 10 ^ 18 := Nat.lt_of_lt_of_le (dig_lt _) (Nat.pow_le_pow_right (by decide) (by unfold dlen at hp bx; omega))
    have h3 : (x * y).natAbs < 1000000000000000000 := h2
    exact mul_short _ _ w hs x y (short_small x (by omega)) (short_small y (by omega)) E (by omega) (by omega)
  · exact mul_long x y w E (by omega) hx hy
end Go.Proofs.YtgllflfifbacnaaGreatDoor.Kl
