/- A contract: strings.IndexAny at a slash and a point, at every text (also one that is no UTF-8). -/
import Derived.Test.YtgllflfifbacnaaGreatDoorKlShelf2
import Derived.Test.YtgllflfifbacnaaGreatDoorKlRatP
import Derived.Laws.RangeAny
import Derived.Laws.Runes
import Derived.Lib.QuietBelow
import Derived.BigQuiet
import Derived.Lib.OthersKept
import Derived.WalkMore
import Derived.Outline
namespace Go.Proofs.YtgllflfifbacnaaGreatDoor.Kl
open Go Go.RowKit Go.Lib

set_option maxRecDepth 100000 in
set_option maxHeartbeats 4000000 in
theorem indexRune_err (w : World) :
    Calls Tryz.prog 142 #[.string ⟨#[47, 46]⟩, .int .i32 65533] w fun e w' => e = .returned (.int .i64 (-1)) ∧ Below w.heap.size w w' := by
  go_enter Tryz.func142, Tryz.ntmps142
  go_wp2
  go_loopg [5, 6] 2 (fun g _ _ wx => ∃ i : Nat, i + g = 2 ∧ wx = w.iter ⟨#[47, 46]⟩ i)
  case atStart => exact ⟨0, rfl, rfl⟩
  case round =>
    obtain ⟨i, hig, rfl⟩ := hrel
    cases gk with
    | zero =>
      obtain rfl : i = 2 := by omega
      have hnx := run_next_end (P := Tryz.prog) w ⟨#[47, 46]⟩ 2
      go_wp2
      go_ret
      exact ⟨rfl, ((Below.refl _ _).alloc (Nat.le_refl _) _)⟩
    | succ g =>
      have hi : i < 2 := by omega
      obtain rfl | rfl : i = 0 ∨ i = 1 := by omega
      · have hnx := fun ty => run_next_ascii (P := Tryz.prog) w ⟨#[47, 46]⟩ 0 ty (by decide) (by decide)
        go_wp2
        go_roundg g
        case measure => omega
        case rel => exact ⟨1, by omega, rfl⟩
      · have hnx := fun ty => run_next_ascii (P := Tryz.prog) w ⟨#[47, 46]⟩ 1 ty (by decide) (by decide)
        go_wp2
        go_roundg g
        case measure => omega
        case rel => exact ⟨2, by omega, rfl⟩

set_option maxRecDepth 100000 in
set_option maxHeartbeats 4000000 in
theorem indexRune_bad (r : Int) (h0 : 128 ≤ r) (he : r ≠ 65533) (hv : Lib.validRune r = false) (w : World) :
    Calls Tryz.prog 142 #[.string ⟨#[47, 46]⟩, .int .i32 r] w fun e w' => e = .returned (.int .i64 (-1)) ∧ Below w.heap.size w w' := by
  have h128 : ¬ r < 128 := by omega
  have C := Lib.hid (Tryz.utf8_ValidRune r w)
  rw [hv] at C
  go_enter Tryz.func142, Tryz.ntmps142
  go_wp2_with (go_at_call 188; refine C.out.mono ?_; rintro e w' ⟨rfl, rfl⟩)
  go_ret
  exact ⟨rfl, Below.refl _ _⟩

set_option maxRecDepth 100000 in
set_option maxHeartbeats 4000000 in
theorem indexRune_good (r : Int) (h0 : 128 ≤ r) (he : r ≠ 65533) (hv : Lib.validRune r = true) (hu : Utf8.valid r = true) (w : World) :
    Calls Tryz.prog 142 #[.string ⟨#[47, 46]⟩, .int .i32 r] w fun e w' => e = .returned (.int .i64 (-1)) ∧ Below w.heap.size w w' := by
  have h128 : ¬ r < 128 := by omega
  have C := Lib.hid (Tryz.utf8_ValidRune r w)
  rw [hv] at C
  obtain ⟨f1, f2, f3⟩ := encode_facts r hu h0
  have hcv : ∀ w : World, (convert 21 9 (.int .i32 r)).run Tryz.prog w = .ok (.string (Utf8.encode r)) w := fun w => by kernel_rfl
  obtain ⟨u, hu'⟩ : ∃ u, Utf8.encode r = u := ⟨_, rfl⟩
  rw [hu'] at f1 f2 f3
  simp only [hu'] at hcv
  have hw1 : IntKind.i64.wrap ((u.size : Int) - 1) = (u.size : Int) - 1 := IntWalk.i64_in _ (by omega)
  have F3 := Lib.hid f3
  clear f3
  go_enter Tryz.func142, Tryz.ntmps142
  go_wp2_with (go_at_call 188; refine C.out.mono ?_; rintro e w' ⟨rfl, rfl⟩)
  go_step3
  go_wp2
  go_loopw [9] (fun i wr => i = .int .i64 ((u.size : Int) - 1) ∧ wr = w') (fun _ _ => 0)
  case atStart => exact ⟨by go_num, rfl⟩
  case round =>
    obtain ⟨rfl, rfl⟩ := hrel
    by_cases h2 : u.size = 2
    · have hl : (u.size : Int) - 1 = 1 := by omega
      have hlt1 : 1 < u.size := by omega
      obtain ⟨c, hc⟩ : ∃ c : UInt8, u[1]'hlt1 = c := ⟨_, rfl⟩
      have hb : 128 ≤ c.toNat := by
        have := F3.out (by omega)
        simp only [h2] at this
        rw [← hc]; exact this
      have hne : ((46 : Int) == (c.toNat : Int)) = false := beq_eq_false_iff_ne.2 (by omega)
      have hne2 : ((46 : Int) != (c.toNat : Int)) = true := by simp only [bne, hne]; rfl
      have hs1 : ((⟨#[47, 46]⟩ : ByteArray)[1]'(by decide)).toNat = 46 := rfl
      have hz : ∀ c : UInt8, Lib.indexByte ((⟨#[47, 46]⟩ : ByteArray).extract 2 2).data.toList c = -1 := fun c => rfl
      have hz2 : ∀ c : UInt8, Lib.indexByte ([] : List UInt8) c = -1 := fun c => rfl
      have hw2 : IntKind.i64.wrap 2 = 2 := IntWalk.i64_in _ (by omega)
      have hex : (⟨#[47, 46]⟩ : ByteArray).extract 2 2 = ⟨#[]⟩ := by decide
      have Q := Lib.hid (fun (w : World) (n : Nat) => (Calls.quiet_of_same (v := .int .i64 (-1)) ((Tryz.strings_IndexByte ByteArray.empty (c.toNat : Int) (w.drewN n)).mono fun e w' h => ⟨h.1.trans rfl, h.2⟩) : Calls Tryz.prog 61 #[.string ByteArray.empty, .int .u8 (c.toNat : Int)] (w.drewN n) fun e w'' => e = .returned (.int .i64 (-1)) ∧ ∃ m, w'' = w.drewN m))
      clear hw1
      simp only [hl]
      go_wp2
      go_step3
      go_wp2
      go_quiet (fail)
      have hb3 := below_drewN wr nq
      obtain ⟨w3, hw3⟩ : ∃ w3, wr.drewN nq = w3 := ⟨_, rfl⟩
      rw [hw3] at hb3 ⊢
      clear hw3
      go_wp2
      go_quiet (with_reducible exact Q.out _ _)
      go_wp2
      change bodyPost _ _ (fun e w' => e = Ending.returned (Value.int IntKind.i64 (-1)) ∧ Below wr.heap.size wr w') Exit.ret _ _
      go_ret
      exact ⟨rfl, hb3.trans ((below_drewN w3 _).mono hb3.size)⟩
    · go_wp2
      rw [Exit.noGoto_ret]
      go_ret
      exact ⟨rfl, Below.refl _ _⟩
theorem indexRune_high (r : Int) (h0 : 128 ≤ r) (w : World) :
    Calls Tryz.prog 142 #[.string ⟨#[47, 46]⟩, .int .i32 r] w fun e w' => e = .returned (.int .i64 (-1)) ∧ Below w.heap.size w w' := by
  by_cases he : r = 65533
  · rw [he]; exact indexRune_err w
  · cases hv : Lib.validRune r with
    | false => exact indexRune_bad r h0 he hv w
    | true =>
      refine indexRune_good r h0 he hv ?_ w
      unfold Lib.validRune at hv
      unfold Utf8.valid
      have := of_decide_eq_true hv
      simp only [Bool.or_eq_true, Bool.and_eq_true, decide_eq_true_eq]
      omega

theorem decode_width (s : ByteArray) (i : Nat) (h : i < s.size) : i + (Utf8.decode s i).2 ≤ s.size ∧ ∀ k, 0 < k → k < (Utf8.decode s i).2 → 128 ≤ (s.get! (i + k)).toNat := by
  simp only [Utf8.decode]
  repeat' split
  all_goals simp_all
  all_goals first
    | omega
    | (refine ⟨by omega, fun k hk hk2 => ?_⟩
       first
         | omega
         | ((obtain rfl | rfl | rfl : k = 1 ∨ k = 2 ∨ k = 3 := by omega) <;> omega))

theorem get_data (s : ByteArray) (j : Nat) (b : UInt8) (h : s.data.toList[j]? = some b) : s.get! j = b := by
  have hj : j < s.data.size := by
    have := (List.getElem?_eq_some_iff.1 h).1
    simpa using this
  have : s.data[j]? = some b := by simpa using h
  simp [ByteArray.get!, getElem!_def, this]

set_option maxRecDepth 100000 in
set_option maxHeartbeats 4000000 in
theorem indexAny_short (s : ByteArray) (h8 : s.size ≤ 8) (w : World) :
    Calls Tryz.prog 91 #[.string s, .string ⟨#[47, 46]⟩] w fun e w' => e = .returned (.int .i64 (Lib.indexAny s.data.toList [47, 46])) ∧ Below w.heap.size w w' := by
  have h8z : decide ((8 : Int) < (s.size : Int)) = false := decide_eq_false (by omega)
  have hsz : (⟨#[47, 46]⟩ : ByteArray).size = 2 := rfl
  have CS := Lib.hid (Tryz.strings_shouldUseASCIISet (s.size : Int))
  go_enter Tryz.func91, Tryz.ntmps91
  go_wp2_with (go_at_call 143; refine (CS.out _).mono ?_; rintro e w' ⟨rfl, rfl⟩; rw [h8z])
  go_loopg [9, 10] s.size (fun g _ _ wx => ∃ i : Nat, i ≤ s.size ∧ s.size ≤ i + g ∧ wx.heap[w'.heap.size]? = some (.stringIter s i) ∧ Below w'.heap.size w' wx ∧ Lib.NoAny s.data.toList [47, 46] i)
  case atStart => exact ⟨0, Nat.zero_le _, by omega, World.iter_heap _ _ _, (Below.refl _ _).alloc (Nat.le_refl _) _, Lib.NoAny.zero _ _⟩
  case round =>
    obtain ⟨i, hi, hig, hk, hb, hno⟩ := hrel
    have HN := Lib.hid hno
    clear hno
    by_cases hlt : i < s.size
    · cases gk with
      | zero => omega
      | succ g =>
        have hnx := fun ty => run_next_any_at (P := Tryz.prog) _ w'.heap.size s i ty hk hlt
        have hh := iterAt_heap _ w'.heap.size s i (i + (Utf8.decode s i).2) hk
        have hbb := below_iterAt hb (Nat.le_refl _) s (i + (Utf8.decode s i).2)
        obtain ⟨x, hx⟩ : ∃ x : UInt8, s[i]'hlt = x := ⟨_, rfl⟩
        have hxl : s.data.toList[i]? = some x := by rw [← hx]; exact Lib.data_getElem? s i hlt
        have Hx := Lib.hid hxl
        clear hxl hk hb
        by_cases hx128 : x.toNat < 128
        · have hd : Utf8.decode s i = (x.toNat, 1) := by rw [← hx]; exact decode_ascii s i hlt (by rw [hx]; exact hx128)
          rw [hd] at hnx hh hbb
          clear hx hd
          have hcon := Lib.contains_iff_indexByte [47, 46] x
          have CR := Lib.hid (Tryz.strings_IndexRune_ascii ⟨#[47, 46]⟩ (x.toNat : Int))
          have hback : ((x.toNat : Int)).toNat.toUInt8 = x := by simp
          rw [hback] at CR
          cases hin : ([47, 46] : List UInt8).contains x with
          | false =>
            rw [hin] at hcon
            have hneg : ¬ ((0 : Int) ≤ Lib.indexByte [47, 46] x) := of_decide_eq_false hcon.symm
            obtain ⟨z, hz⟩ : ∃ z, Lib.indexByte [47, 46] x = z := ⟨_, rfl⟩
            rw [hz] at hneg
            replace CR := Lib.hid (fun w => (CR.out w (by omega) (by omega)).mono fun e w' h => (⟨h.1.trans (retI hz), h.2⟩ : e = .returned (.int .i64 z) ∧ w' = w))
            have HI := Lib.hid hin
            clear hcon hin hz
            go_wp2_with (go_at_call 142; refine (CR.out _).mono ?_; rintro e w2 ⟨rfl, rfl⟩)
            go_roundg g
            case measure => omega
            case rel => exact ⟨i + 1, by omega, by omega, hh, hbb, HN.out.succ Hx.out HI.out⟩
          | true =>
            rw [hin] at hcon
            have hge : (0 : Int) ≤ Lib.indexByte [47, 46] x := of_decide_eq_true hcon.symm
            obtain ⟨z, hz⟩ : ∃ z, Lib.indexByte [47, 46] x = z := ⟨_, rfl⟩
            rw [hz] at hge
            replace CR := Lib.hid (fun w => (CR.out w (by omega) (by omega)).mono fun e w' h => (⟨h.1.trans (retI hz), h.2⟩ : e = .returned (.int .i64 z) ∧ w' = w))
            have HI := Lib.hid hin
            clear hcon hin hz
            go_wp2_with (go_at_call 142; refine (CR.out _).mono ?_; rintro e w2 ⟨rfl, rfl⟩)
            go_ret
            exact ⟨retI (Lib.indexAny_hit HN.out Hx.out HI.out).symm, hbb⟩
        · obtain ⟨d1, d2⟩ := decode_high s i hlt (by rw [hx]; omega)
          obtain ⟨e1, e2⟩ := decode_width s i hlt
          have hno2 : Lib.NoAny s.data.toList [47, 46] (i + (Utf8.decode s i).2) := by
            intro j b hj hjb
            by_cases hji : j < i
            · exact HN.out j b hji hjb
            · have hb128 : 128 ≤ b.toNat := by
                by_cases hj0 : j = i
                · rw [hj0, Hx.out] at hjb
                  injection hjb with hjb
                  rw [← hjb]; omega
                · have := e2 (j - i) (by omega) (by omega)
                  rw [show i + (j - i) = j by omega, get_data s j b hjb] at this
                  exact this
              cases e : ([47, 46] : List UInt8).contains b with
              | false => rfl
              | true =>
                rw [List.contains_iff_mem] at e
                simp only [List.mem_cons, List.not_mem_nil, or_false] at e
                rcases e with rfl | rfl <;> exact absurd hb128 (by decide)
          have H2 := Lib.hid hno2
          have D1 := Lib.hid d1
          clear hno2 d1 hx hx128
          obtain ⟨p, hp⟩ : ∃ p, Utf8.decode s i = p := ⟨_, rfl⟩
          rw [hp] at hnx hh hbb d2 e1 H2 D1
          clear e2 hp
          obtain ⟨r, k⟩ := p
          simp only at hnx hh hbb d2 e1 H2 D1
          have CR := Lib.hid (indexRune_high (r : Int) (by have := D1.out; omega))
          go_wp2_with (go_at_call 142; refine (CR.out _).mono ?_; rintro e w2 ⟨rfl, hb2⟩)
          go_roundg g
          case measure => omega
          case rel => exact ⟨i + k, by omega, by omega, (hb2.block _ (Array.getElem?_eq_some_iff.1 hh).1).trans hh, hbb.trans (hb2.mono hbb.size), H2.out⟩
    · have ei : i = s.size := by omega
      have hnx := fun ty => run_next_end_at (P := Tryz.prog) _ w'.heap.size s i ty hk hlt
      go_wp2
      go_ret
      exact ⟨retI (Lib.indexAny_none (by rw [← Lib.size_eq, ← ei]; exact HN.out)).symm, hb⟩

theorem indexAny_call (s : ByteArray) (hs : s.size ≤ 1000000) (w : World) (_R : EnvR w) :
    Calls Tryz.prog 91 #[.string s, .string ⟨#[47, 46]⟩] w fun e w' => e = .returned (.int .i64 (Lib.indexAny s.data.toList [47, 46])) ∧ Below w.heap.size w w' := by
  by_cases h8 : s.size ≤ 8
  · exact indexAny_short s h8 w
  · refine (Tryz.strings_IndexAny_long (zero_of_info (n := 256) (by kernel_rfl)).1 s ⟨#[47, 46]⟩ w (by decide) (by omega) (by omega) (by decide) ?_).mono fun e w' h => ⟨h.1, ?_⟩
    · intro j b h
      have hm := List.mem_of_getElem? h
      simp at hm
      rcases hm with rfl | rfl <;> decide
    · rw [h.2]
      exact ((Below.refl _ _).alloc (Nat.le_refl _) _).alloc (by simp) _
end Go.Proofs.YtgllflfifbacnaaGreatDoor.Kl
