import Derived.Test.YtpiiclmkbplkhaaGreatDoorKlBNPlus
import Derived.Test.YtpiiclmkbplkhaaGreatDoorKlBTextM
namespace Go.Proofs.YtpiiclmkbplkhaaGreatDoor.Kl
open Go Go.RowKit
set_option maxRecDepth 100000
set_option maxHeartbeats 8000000
theorem sgI_abs {b:Bool} {N:Nat} {z:Int} (h:sgI b N=z):N=z.natAbs:=by
 cases b
 · rw [sgI_f] at h;omega
 · rw [sgI_t] at h;omega
theorem chainN {P:Program} {K:FuncId} {args:Array Value} {w w0:World} {z:Int} (hb:Below w0.heap.size w0 w) (h:Calls P K args w (RetN w z)) :
   Calls P K args w fun e w' => ∃ b p n c,e = .returned (.agg #[.bool b,.slice p n c])∧Hid (Sm w' p n c z.natAbs∧sgI b z.natAbs=z∧Below w.heap.size w w')∧Below w0.heap.size w0 w':=
 h.mono fun _ _ ⟨b,p,n,c,N,e,h1,h2,h3⟩=>⟨b,p,n,c,e,Lib.hid (by rw [← sgI_abs h2];exact ⟨h1,h2,h3⟩),hb.trans (h3.mono hb.size)⟩
theorem nplus_z {b1 b2:Bool} {p q:Option Addr} {n c m d X Y:Nat} {w:World} {x y:Int} (h1:Sm w p n c X) (h2:Sm w q m d Y) (e1:sgI b1 X=x) (e2:sgI b2 Y=y) (hX:(pcM X).length≤100000) (hY:(pcM Y).length≤100000) :
   Calls Tryz.prog 166 #[.agg #[.bool b1,.slice p n c],.agg #[.bool b2,.slice q m d]] w (RetN w (x+y)):=by
 subst e1 e2;exact nplus_any b1 b2 p q n c m d X Y w h1 h2 hX hY
theorem text_z {b:Bool} {p:Option Addr} {n c X:Nat} {w:World} {z:Int} (E:Env w) (h:Sm w p n c X) (e:sgI b X=z) (hX:(pcM X).length≤100000) :
   Calls Tryz.prog 109 #[.agg #[.bool b,.slice p n c]] w (Ret w (.string (itoaB z))):=by
 subst e;exact text_sm b p n c X w E h hX
theorem pcM_len_z (z:Int) (h:dlen z≤90000):(pcM z.natAbs).length≤100000:=by
 unfold dlen at h
 have:=pcM_len_dec z.natAbs 90000 h;omega
theorem dlen_add (x y:Int) (K:Nat) (hK:0 < K) (hx:dlen x≤K) (hy:dlen y≤K):dlen (x+y)≤K+1:=dec_add_len K x.natAbs y.natAbs _ hK hx hy (by omega)
set_option maxRecDepth 512 in
theorem ints_long (s t:ByteArray) (w:World) (h:18 < max (s.size:Int) (t.size:Int)) :
   Calls Tryz.prog 105 #[.string s,.string t] w (Ret w (.tuple #[.int .i64 0,.int .i64 0,.bool false])):=by
 go_enter Tryz.func105,Tryz.ntmps105
 go_wp2
 go_ret3
 exact ⟨rfl,Below.refl _ _⟩
theorem short_bound (x:Int) (h:(itoaB x).size≤18) : -1000000000000000000 < x∧x < 1000000000000000000:=by
 unfold itoaB at h
 rw [strOf_size,itoa_len] at h
 have h1:dlen x≤18:=by split at h <;> omega
 unfold dlen at h1
 have h2:x.natAbs < 10 ^ 18:=Nat.lt_of_lt_of_le (dig_lt _) (Nat.pow_le_pow_right (by decide) h1)
 have h3:x.natAbs < 1000000000000000000:=h2
 omega
theorem short_small (x:Int) (h:(itoaB x).size≤18):smallV (itoaB x).data.toList=some x:=by
 have:=short_bound x h
 rw [itoaB_data];exact smallV_itoa x (by omega) (by omega)
theorem add_any (x y:Int) (w:World) (E:Env w) (hx:dlen x≤40000) (hy:dlen y≤40000) :
   Calls Tryz.prog 142 #[.string (itoaB x),.string (itoaB y)] w (Ret w (.string (itoaB (x+y)))):=by
 by_cases hs:(itoaB x).size≤18∧(itoaB y).size≤18
 · have bx:=short_bound x hs.1
   have b2:=short_bound y hs.2
   have k1:CE 105 #[.string (itoaB x),.string (itoaB y)] (.tuple #[.int .i64 x,.int .i64 y,.bool true]):=fun w E=>ints_short _ _ w hs.1 hs.2 x y (short_small x hs.1) (short_small y hs.2) E
   obtain ⟨a,ha⟩:∃ a,itoaB x=a:=⟨_,rfl⟩
   obtain ⟨b,hb'⟩:∃ b,itoaB y=b:=⟨_,rfl⟩
   rw [ha,hb'] at k1 ⊢
   have K1:=Lib.hid k1
   clear k1 ha hb' hs hx hy
   have hb:=Below.refl w.heap.size w
   go_enter Tryz.func142,Tryz.ntmps142
   go_wp2_with (first | (go_at_call 105;refine (chain hb (K1.out _ (E.below hb))).mono ?_;clear hb;rintro e w1 ⟨rfl,hb⟩) | (go_at_call 89;refine (chain hb (of_any _ (by omega) (by omega) _ (E.below hb))).mono ?_;clear hb;rintro e w1 ⟨rfl,hb⟩))
   go_ret
   exact ⟨rfl,hb⟩
 · have hm:18 < max ((itoaB x).size:Int) ((itoaB y).size:Int):=by omega
   have k1:∀ w,Calls Tryz.prog 105 #[.string (itoaB x),.string (itoaB y)] w (Ret w (.tuple #[.int .i64 0,.int .i64 0,.bool false])):=fun w=>ints_long _ _ w hm
   have r1:∀ w,Calls Tryz.prog 107 #[.string (itoaB x)] w (RetN w x):=fun w=>read_itoa x w (by omega)
   have r2:∀ w,Calls Tryz.prog 107 #[.string (itoaB y)] w (RetN w y):=fun w=>read_itoa y w (by omega)
   have HX:=Lib.hid (pcM_len_z x (by omega))
   have HY:=Lib.hid (pcM_len_z y (by omega))
   have HZ:=Lib.hid (pcM_len_z (x+y) (by have:=dlen_add x y 40000 (by decide) hx hy;omega))
   obtain ⟨a,ha⟩:∃ a,itoaB x=a:=⟨_,rfl⟩
   obtain ⟨b,hb'⟩:∃ b,itoaB y=b:=⟨_,rfl⟩
   rw [ha,hb'] at k1
   rw [ha] at r1
   rw [hb'] at r2
   rw [ha,hb']
   have K1:=Lib.hid k1
   have R1:=Lib.hid r1
   have R2:=Lib.hid r2
   clear k1 r1 r2 ha hb' hs hx hy hm
   have hb:=Below.refl w.heap.size w
   go_enter Tryz.func142,Tryz.ntmps142
   go_wp2_with (first | (go_at_call 105;refine (chain hb (K1.out _)).mono ?_;clear hb;rintro e w1 ⟨rfl,hb⟩) | (go_at_call 107;first | (with_reducible refine (chainN hb (R1.out _)).mono ?_;clear hb;rintro e w1 ⟨b1,p1,n1,c1,rfl,hs1,hb⟩) | (with_reducible refine (chainN hb (R2.out _)).mono ?_;clear hb;rintro e w2 ⟨b2,p2,n2,c2,rfl,hs2,hb⟩)) | (go_at_call 166;refine (chainN hb (nplus_z (hs1.out.1.below hs2.out.2.2) hs2.out.1 hs1.out.2.1 hs2.out.2.1 HX.out HY.out)).mono ?_;clear hb;rintro e w3 ⟨b3,p3,n3,c3,rfl,hs3,hb⟩) | (go_at_call 109;refine (chain hb (text_z (E.below hb) hs3.out.1 hs3.out.2.1 HZ.out)).mono ?_;clear hb;rintro e w4 ⟨rfl,hb⟩))
   go_ret
   exact ⟨rfl,hb⟩
end Go.Proofs.YtpiiclmkbplkhaaGreatDoor.Kl
