import Derived.Test.YtpennccflalobaaGreatDoorKlVLinesAddZ
import Derived.Test.YtpennccflalobaaGreatDoorKlVLinesText
import Derived.Test.YtpennccflalobaaGreatDoorKlBMulI
namespace Go.Proofs.YtpennccflalobaaGreatDoor.Kl
open Go Go.RowKit
set_option maxRecDepth 100000
set_option maxHeartbeats 8000000
theorem neg_mul (x y:Int) (h:0 < x.natAbs*y.natAbs):(!(decide (x < 0) == decide (y < 0)))=decide (x*y < 0):=by
 have hx:x≠0:=fun e=>by rw [e] at h;simp at h
 have hy:y≠0:=fun e=>by rw [e] at h;simp at h
 rcases Int.lt_or_gt_of_ne hx with h1 | h1 <;> rcases Int.lt_or_gt_of_ne hy with h2 | h2
 · have:=Int.mul_pos_of_neg_of_neg h1 h2
   rw [decide_eq_true h1,decide_eq_true h2,decide_eq_false (by omega)];rfl
 · have:=Int.mul_neg_of_neg_of_pos h1 h2
   rw [decide_eq_true h1,decide_eq_false (by omega),decide_eq_true (by omega)];rfl
 · have:=Int.mul_neg_of_pos_of_neg h1 h2
   rw [decide_eq_false (by omega),decide_eq_true h2,decide_eq_true (by omega)];rfl
 · have:=Int.mul_pos h1 h2
   rw [decide_eq_false (by omega),decide_eq_false (by omega),decide_eq_false (by omega)];rfl
theorem refMul_short (x y:Int) (w:World) (E:Env w) (h:dlen x+dlen y≤18) :
   Calls Tryz.prog 110 #[.string (itoaB x),.string (itoaB y)] w (Ret w (.string (itoaB (x*y)))):=by
 have px:0 < dlen x:=List.length_pos_iff.2 (decDigits_ne x.natAbs)
 have hp:=dlen_mul x y (dlen x) (dlen y) (by omega) (Nat.le_refl _) (Nat.le_refl _)
 have h2:(x*y).natAbs < 10 ^ 18:=Nat.lt_of_lt_of_le (dig_lt _) (Nat.pow_le_pow_right (by decide) (by unfold dlen at hp h;omega))
 have h3:(x*y).natAbs < 1000000000000000000:=h2
 have h4':x.natAbs < 10 ^ 18:=Nat.lt_of_lt_of_le (dig_lt _) (Nat.pow_le_pow_right (by decide) (by unfold dlen at h;omega))
 have h4:x.natAbs < 1000000000000000000:=h4'
 have h5':y.natAbs < 10 ^ 18:=Nat.lt_of_lt_of_le (dig_lt _) (Nat.pow_le_pow_right (by decide) (by unfold dlen at h;omega))
 have h5:y.natAbs < 1000000000000000000:=h5'
 have s1:∀ w,Calls Tryz.prog 131 #[.string (itoaB x)] w (Ret w (.tuple #[.bool (decide (x < 0)),.string (magB (itoaB x))])):=fun w=>split_any _ w _ (neg_itoaB x)
 have s2:∀ w,Calls Tryz.prog 131 #[.string (itoaB y)] w (Ret w (.tuple #[.bool (decide (y < 0)),.string (magB (itoaB y))])):=fun w=>split_any _ w _ (neg_itoaB y)
 have c1:∀ w,Calls Tryz.prog 159 #[.string (itoaB x)] w (Ret w (.tuple #[.int .i64 x,.bool true])):=fun w=>by
   have:=refSmall_any (itoaB x) w (by have:=itoaB_size x (by omega);omega) (canon_itoa x)
   rwa [show smI (itoaB x).data.toList=x by unfold smI;rw [itoaB_data,smallV_itoa x (by omega) (by omega)];rfl,show smB (itoaB x).data.toList=true by unfold smB;rw [itoaB_data,smallV_itoa x (by omega) (by omega)];rfl] at this
 have c2:∀ w,Calls Tryz.prog 159 #[.string (itoaB y)] w (Ret w (.tuple #[.int .i64 y,.bool true])):=fun w=>by
   have:=refSmall_any (itoaB y) w (by have:=itoaB_size y (by omega);omega) (canon_itoa y)
   rwa [show smI (itoaB y).data.toList=y by unfold smI;rw [itoaB_data,smallV_itoa y (by omega) (by omega)];rfl,show smB (itoaB y).data.toList=true by unfold smB;rw [itoaB_data,smallV_itoa y (by omega) (by omega)];rfl] at this
 have o1:CE 94 #[.int .i64 (x*y)] (.string (itoaB (x*y))):=fun w E=>refOf_any (x*y) (by omega) (by omega) w E
 have hsz:((magB (itoaB x)).size:Int)+(magB (itoaB y)).size≤18:=by rw [magB_dlen,magB_dlen];omega
 have hz1:(magB (itoaB x)).size≤18:=by omega
 have hz2:(magB (itoaB y)).size≤18:=by omega
 obtain ⟨mx,hmx⟩:∃ v,decide (x < 0)=v:=⟨_,rfl⟩
 obtain ⟨my,hmy⟩:∃ v,decide (y < 0)=v:=⟨_,rfl⟩
 obtain ⟨sx,hsx⟩:∃ v,magB (itoaB x)=v:=⟨_,rfl⟩
 obtain ⟨sy,hsy⟩:∃ v,magB (itoaB y)=v:=⟨_,rfl⟩
 obtain ⟨r,hr⟩:∃ v,itoaB (x*y)=v:=⟨_,rfl⟩
 obtain ⟨a,ha⟩:∃ v,itoaB x=v:=⟨_,rfl⟩
 obtain ⟨b,hb0⟩:∃ v,itoaB y=v:=⟨_,rfl⟩
 rw [hsx] at s1 hsz hz1
 rw [hsy] at s2 hsz hz2
 rw [hmx] at s1
 rw [hmy] at s2
 rw [hr] at o1 ⊢
 rw [ha] at s1 c1 ⊢
 rw [hb0] at s2 c2 ⊢
 have S1:=Lib.hid s1
 have S2:=Lib.hid s2
 have C1:=Lib.hid c1
 have C2:=Lib.hid c2
 have O1:=Lib.hid o1
 have ew:IntKind.i64.wrap (x*y)=x*y:=IntWalk.i64_in _ (by omega)
 clear s1 s2 c1 c2 o1 hmx hmy hsx hsy hr ha hb0 h hp h2 h3 h4 h5 h4' h5' px
 have hb:=Below.refl w.heap.size w
 go_enter Tryz.func110,Tryz.ntmps110
 go_wp2_with (first | (go_at_call 131;first | (with_reducible refine (chain hb (S1.out _)).mono ?_;clear hb;rintro e w1 ⟨rfl,hb⟩) | (with_reducible refine (chain hb (S2.out _)).mono ?_;clear hb;rintro e w1 ⟨rfl,hb⟩)) | (go_at_call 159;first | (with_reducible refine (chain hb (C1.out _)).mono ?_;clear hb;rintro e w1 ⟨rfl,hb⟩) | (with_reducible refine (chain hb (C2.out _)).mono ?_;clear hb;rintro e w1 ⟨rfl,hb⟩)) | (go_at_call 94;(try rw [ew]);refine (chain hb (O1.out _ (E.below hb))).mono ?_;clear hb;rintro e w1 ⟨rfl,hb⟩))
 go_ret
 exact ⟨rfl,hb⟩
theorem refMul_long (x y:Int) (w:World) (E:Env w) (h:18 < dlen x+dlen y) (hx:dlen x≤9000) (hy:dlen y≤9000) :
   Calls Tryz.prog 110 #[.string (itoaB x),.string (itoaB y)] w (Ret w (.string (itoaB (x*y)))):=by
 have s1:∀ w,Calls Tryz.prog 131 #[.string (itoaB x)] w (Ret w (.tuple #[.bool (decide (x < 0)),.string (magB (itoaB x))])):=fun w=>split_any _ w _ (neg_itoaB x)
 have s2:∀ w,Calls Tryz.prog 131 #[.string (itoaB y)] w (Ret w (.tuple #[.bool (decide (y < 0)),.string (magB (itoaB y))])):=fun w=>split_any _ w _ (neg_itoaB y)
 have t1:∀ w,Calls Tryz.prog 162 #[.string (magB (itoaB x))] w (RetP w (pcN x.natAbs)):=fun w=>take_itoa x w (by omega)
 have t2:∀ w,Calls Tryz.prog 162 #[.string (magB (itoaB y))] w (RetP w (pcN y.natAbs)):=fun w=>take_itoa y w (by omega)
 have hsz:(18:Int) < ((magB (itoaB x)).size:Int)+(magB (itoaB y)).size:=by rw [magB_dlen,magB_dlen];omega
 have hz1:(magB (itoaB x)).size≤9000:=by rw [magB_dlen];omega
 have hz2:(magB (itoaB y)).size≤9000:=by rw [magB_dlen];omega
 have lx:(pcN x.natAbs).length≤9000:=pcN_len_dec _ _ (by unfold dlen at hx;exact hx)
 have ly:(pcN y.natAbs).length≤9000:=pcN_len_dec _ _ (by unfold dlen at hy;exact hy)
 have hd:(Lib.decDigits (x.natAbs*y.natAbs)).length≤18000:=dec_mul_len 9000 9000 _ _ (by decide) (by unfold dlen at hx;exact hx) (by unfold dlen at hy;exact hy)
 have lz:(pcN (x.natAbs*y.natAbs)).length≤100000:=by have:=pcN_len_dec _ _ hd;omega
 have hres:strOf (sgn (!(decide (x < 0) == decide (y < 0))) (x.natAbs*y.natAbs))=itoaB (x*y):=by
   unfold itoaB;rw [sgn_of (x*y) _ _ (by rw [Int.natAbs_mul]) (fun h0=>neg_mul x y h0)]
 have LX:=Lib.hid lx
 have LY:=Lib.hid ly
 have LZ:=Lib.hid lz
 have HD:Hid ((Lib.decDigits (x.natAbs*y.natAbs)).length≤1000000):=Lib.hid (by omega)
 obtain ⟨X,hX⟩:∃ v,x.natAbs=v:=⟨_,rfl⟩
 obtain ⟨Y,hY⟩:∃ v,y.natAbs=v:=⟨_,rfl⟩
 obtain ⟨mx,hmx⟩:∃ v,decide (x < 0)=v:=⟨_,rfl⟩
 obtain ⟨my,hmy⟩:∃ v,decide (y < 0)=v:=⟨_,rfl⟩
 obtain ⟨sx,hsx⟩:∃ v,magB (itoaB x)=v:=⟨_,rfl⟩
 obtain ⟨sy,hsy⟩:∃ v,magB (itoaB y)=v:=⟨_,rfl⟩
 obtain ⟨r,hr⟩:∃ v,itoaB (x*y)=v:=⟨_,rfl⟩
 obtain ⟨a,ha⟩:∃ v,itoaB x=v:=⟨_,rfl⟩
 obtain ⟨b,hb0⟩:∃ v,itoaB y=v:=⟨_,rfl⟩
 rw [hX,hY] at hres LZ HD
 rw [hX] at LX t1
 rw [hY] at LY t2
 rw [hsx] at s1 t1 hsz hz1
 rw [hsy] at s2 t2 hsz hz2
 rw [hmx] at s1 hres
 rw [hmy] at s2 hres
 rw [hr] at hres ⊢
 rw [ha] at s1 ⊢
 rw [hb0] at s2 ⊢
 have S1:=Lib.hid s1
 have S2:=Lib.hid s2
 have T1:=Lib.hid t1
 have T2:=Lib.hid t2
 have HR:=Lib.hid hres
 clear s1 s2 t1 t2 hres hmx hmy hsx hsy hr ha hb0 h hx hy lx ly lz hd hX hY
 have hb:=Below.refl w.heap.size w
 go_enter Tryz.func110,Tryz.ntmps110
 go_wp2_with (first | (go_at_call 131;first | (with_reducible refine (chain hb (S1.out _)).mono ?_;clear hb;rintro e w1 ⟨rfl,hb⟩) | (with_reducible refine (chain hb (S2.out _)).mono ?_;clear hb;rintro e w1 ⟨rfl,hb⟩)) | (go_at_call 162;first | (with_reducible refine (chainR hb (T1.out _)).mono ?_;clear hb;rintro e w1 ⟨p1,n1,c1,rfl,hs1,hl1,hb⟩;have HS1:=Lib.hid hs1;have HL1:=Lib.hid hl1;clear hs1 hl1) | (with_reducible refine (chainR hb (T2.out _)).mono ?_;clear hb;rintro e w2 ⟨p2,n2,c2,rfl,hs2,hl2,hb⟩;have HS2:=Lib.hid hs2;have HL2:=Lib.hid hl2;clear hs2 hl2)) | (go_at_call 161;refine (chainR hb (refTimes_sl (HS1.out.below HL2.out) HS2.out LX.out LY.out)).mono ?_;clear hb;rintro e w3 ⟨p3,n3,c3,rfl,hs3,hl3,hb⟩;have HS3:=Lib.hid hs3;clear hs3 hl3) | (go_at_call 160;refine (chain hb (made_sl (E.below hb) HS3.out LZ.out HD.out _ r HR.out)).mono ?_;clear hb;rintro e w4 ⟨rfl,hb⟩))
 go_ret
 exact ⟨rfl,hb⟩
theorem refMul_any (x y:Int) (w:World) (E:Env w) (hx:dlen x≤9000) (hy:dlen y≤9000) :
   Calls Tryz.prog 110 #[.string (itoaB x),.string (itoaB y)] w (Ret w (.string (itoaB (x*y)))):=by
 by_cases h:dlen x+dlen y≤18
 · exact refMul_short x y w E h
 · exact refMul_long x y w E (by omega) hx hy
end Go.Proofs.YtpennccflalobaaGreatDoor.Kl
