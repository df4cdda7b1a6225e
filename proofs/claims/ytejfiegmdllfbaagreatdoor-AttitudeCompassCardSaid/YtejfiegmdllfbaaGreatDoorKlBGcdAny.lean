import Derived.Test.YtejfiegmdllfbaaGreatDoorKlBGcdI
namespace Go.Proofs.YtejfiegmdllfbaaGreatDoor.Kl
open Go Go.RowKit
set_option maxRecDepth 100000
set_option maxHeartbeats 8000000
theorem gcd_long (x y:Int) (w:World) (E:Env w) (hs:18 < max ((itoaB x).size:Int) ((itoaB y).size:Int)) (hx:dlen x≤40000) (hy:dlen y≤40000) :
   Calls Tryz.prog 100 #[.string (itoaB x),.string (itoaB y)] w (Ret w (.string (itoaB (Nat.gcd x.natAbs y.natAbs)))):=by
 have k1:∀ w,Calls Tryz.prog 135 #[.string (itoaB x),.string (itoaB y)] w (Ret w (.tuple #[.int .i64 0,.int .i64 0,.bool false])):=fun w=>ints_long _ _ w hs
 have r1:∀ w,Calls Tryz.prog 137 #[.string (itoaB x)] w (RetN w x):=fun w=>read_itoa x w (by omega)
 have r2:∀ w,Calls Tryz.prog 137 #[.string (itoaB y)] w (RetN w y):=fun w=>read_itoa y w (by omega)
 have hlx:(pcM x.natAbs).length≤40000:=by unfold dlen at hx;exact pcM_len_dec x.natAbs 40000 hx
 have hly:(pcM y.natAbs).length≤40000:=by unfold dlen at hy;exact pcM_len_dec y.natAbs 40000 hy
 have hgl:(pcM (Nat.gcd x.natAbs y.natAbs)).length≤100000:=by
   rcases Nat.eq_zero_or_pos x.natAbs with e | e
   · rw [e,Nat.gcd_zero_left];omega
   · have:=pcM_len_mono (Nat.gcd_le_left y.natAbs e);omega
 have HX:Hid ((pcM x.natAbs).length≤80000):=Lib.hid (Nat.le_trans hlx (by decide))
 have HY:Hid ((pcM y.natAbs).length≤80000):=Lib.hid (Nat.le_trans hly (by decide))
 have HGL:=Lib.hid hgl
 have hfld:∀ (b:Bool) (p:Option Addr) (n c:Nat) (w:World),(Instr.field 166 (.agg #[.bool b,.slice p n c]) 1).run Tryz.prog w = .ok (.slice p n c) w:=fun b p n c w=>by kernel_rfl
 obtain ⟨g,hg⟩:∃ g,itoaB ((Nat.gcd x.natAbs y.natAbs:Nat):Int)=g:=⟨_,rfl⟩
 obtain ⟨a,ha⟩:∃ a,itoaB x=a:=⟨_,rfl⟩
 obtain ⟨b,hb'⟩:∃ b,itoaB y=b:=⟨_,rfl⟩
 have HG:=Lib.hid hg
 rw [ha,hb'] at k1
 rw [ha] at r1
 rw [hb'] at r2
 rw [ha,hb',hg]
 have K1:=Lib.hid k1
 have R1:=Lib.hid r1
 have R2:=Lib.hid r2
 clear k1 r1 r2 ha hb' hs hx hy hg hlx hly hgl
 have hb:=Below.refl w.heap.size w
 go_enter Tryz.func100,Tryz.ntmps100
 go_wp2_with (first | (go_at_call 135;refine (chain hb (K1.out _)).mono ?_;clear hb;rintro e w1 ⟨rfl,hb⟩) | (go_at_call 137;first | (with_reducible refine (chainN hb (R1.out _)).mono ?_;clear hb;rintro e w1 ⟨b1,p1,n1,c1,rfl,hs1,hb⟩) | (with_reducible refine (chainN hb (R2.out _)).mono ?_;clear hb;rintro e w2 ⟨b2,p2,n2,c2,rfl,hs2,hb⟩)) | (go_at_call 138;refine (chainM hb (gcd_loop (hs1.out.1.below hs2.out.2.2) hs2.out.1 HX.out HY.out)).mono ?_;clear hb;rintro e w3 ⟨p3,n3,c3,rfl,hs3,hl3,hb⟩;have HS3:=Lib.hid hs3;clear hs3 hl3) | (go_at_call 139;refine (chain hb (text_z (E.below hb) HS3.out (sgI_f _) HGL.out)).mono ?_;clear hb;rintro e w4 ⟨rfl,hb⟩))
 go_ret
 exact ⟨retS HG.out,hb⟩
theorem gcd_any (x y:Int) (w:World) (E:Env w) (hx:dlen x≤40000) (hy:dlen y≤40000) :
   Calls Tryz.prog 100 #[.string (itoaB x),.string (itoaB y)] w (Ret w (.string (itoaB (Nat.gcd x.natAbs y.natAbs)))):=by
 by_cases hs:(itoaB x).size≤18∧(itoaB y).size≤18
 · have bx:=short_bound x hs.1
   have b2:=short_bound y hs.2
   exact gcd_short _ _ w hs.1 hs.2 x y (short_small x hs.1) (short_small y hs.2) E bx.1 bx.2 b2.1 b2.2
 · exact gcd_long x y w E (by omega) hx hy
theorem refGcd_any (x y:Int) (w:World) (E:Env w) (hx:dlen x≤2000) (hy:dlen y≤2000) :
   Calls Tryz.prog 133 #[.string (itoaB x),.string (itoaB y)] w (Ret w (.string (itoaB (Nat.gcd x.natAbs y.natAbs)))):=by
 obtain ⟨mv,hmv⟩:=itoa_val
 have a1:=fun w=>refAbs_any x w
 have a2:=fun w=>refAbs_any y w
 have hdx:dlen (x.natAbs:Int)≤2000:=dlen_nat_le _ x 2000 (by decide) (Nat.le_refl _) hx
 have hdy:dlen (y.natAbs:Int)≤2000:=dlen_nat_le _ y 2000 (by decide) (Nat.le_refl _) hy
 have dm:∀ (X Y:Nat),Y≠0→dlen (X:Int)≤2000→dlen (Y:Int)≤2000→CE 165 #[.string (itoaB (X:Int)),.string (itoaB (Y:Int))] (.tuple #[.string (itoaB ((X / Y:Nat):Int)),.string (itoaB ((X % Y:Nat):Int))]):=fun X Y hY h1 h2 w E=>by
   have:=refDivMod_any (X:Int) (Y:Int) w E (by omega) (by omega) (by omega)
   rwa [← Int.natCast_ediv,← Int.natCast_emod] at this
 obtain ⟨G,hG⟩:∃ G,Nat.gcd x.natAbs y.natAbs=G:=⟨_,rfl⟩
 obtain ⟨X0,hX0⟩:∃ X0,x.natAbs=X0:=⟨_,rfl⟩
 obtain ⟨Y0,hY0⟩:∃ Y0,y.natAbs=Y0:=⟨_,rfl⟩
 rw [hX0,hY0] at hG
 rw [hX0] at hdx
 rw [hY0] at hdy
 rw [hX0,hY0,hG]
 simp only [hX0] at a1
 simp only [hY0] at a2
 obtain ⟨a,ha⟩:∃ a,itoaB x=a:=⟨_,rfl⟩
 obtain ⟨b,hb'⟩:∃ b,itoaB y=b:=⟨_,rfl⟩
 simp only [ha] at a1
 simp only [hb'] at a2
 rw [ha,hb']
 have A1:=Lib.hid a1
 have A2:=Lib.hid a2
 have DM:=Lib.hid dm
 have HMV:=Lib.hid hmv
 have HG:=Lib.hid hG
 clear a1 a2 dm hmv ha hb' hX0 hY0 hx hy hG
 have hb:=Below.refl w.heap.size w
 go_enter Tryz.func133,Tryz.ntmps133
 go_wp2_with (go_at_call 164;first | (with_reducible refine (chain hb (A1.out _)).mono ?_;clear hb;rintro e w1 ⟨rfl,hb⟩) | (with_reducible refine (chain hb (A2.out _)).mono ?_;clear hb;rintro e w1 ⟨rfl,hb⟩))
 have HB:=Lib.hid hb
 clear hb
 go_loopw [0,1] (fun xv yv wr=>∃ X Y:Nat,xv = .string (itoaB (X:Int))∧yv = .string (itoaB (Y:Int))∧dlen (X:Int)≤2000∧dlen (Y:Int)≤2000∧Nat.gcd X Y=G∧Below w.heap.size w wr) (fun _ yv _=>mv yv)
 case atStart=>exact ⟨X0,Y0,rfl,rfl,hdx,hdy,HG.out,HB.out⟩
 case round =>
   obtain ⟨X,Y,rfl,rfl,hdX,hdY,hg,hb⟩:=hrel
   clear HB
   by_cases h0:Y=0
   · subst h0
     have e0:itoaB ((0:Nat):Int)=⟨#[48]⟩:=(itoa_eq_zero 0).2 rfl
     rw [Nat.gcd_zero_right] at hg
     subst hg
     rw [e0]
     go_wp2
     go_ret
     exact ⟨rfl,hb⟩
   · have hz:((itoaB (Y:Int)).toList == [48])=false:=by
       rw [← decide_eq_false (show ¬ (Y:Int)=0 by omega),Bool.eq_iff_iff,beq_iff_eq,decide_eq_true_iff,← itoa_eq_zero,Lib.toList_data]
       exact ⟨fun h=>dat_inj h,fun h=>by rw [h]⟩
     have c1:=DM.out X Y h0 hdX hdY
     have hm1:=HMV.out Y
     have hm2:=HMV.out (X % Y)
     have hlt:=Nat.mod_lt X (Nat.pos_of_ne_zero h0)
     have hgc:Nat.gcd Y (X % Y)=G:=by rw [gcd_step];exact hg
     have hdm:dlen ((X % Y:Nat):Int)≤2000:=dlen_nat_le _ (Y:Int) 2000 (by decide) (by rw [Int.natAbs_natCast];exact Nat.le_of_lt hlt) hdY
     obtain ⟨M,hM⟩:∃ M,X % Y=M:=⟨_,rfl⟩
     rw [hM] at hm2 hgc hdm hlt
     simp only [hM] at c1
     obtain ⟨sx,hsx⟩:∃ sx,itoaB (X:Int)=sx:=⟨_,rfl⟩
     obtain ⟨sy,hsy⟩:∃ sy,itoaB (Y:Int)=sy:=⟨_,rfl⟩
     obtain ⟨sm,hsm⟩:∃ sm,itoaB (M:Int)=sm:=⟨_,rfl⟩
     rw [hsx,hsy]
     rw [hsy] at hz hm1
     rw [hsm] at hm2
     simp only [hsx,hsy,hsm] at c1
     have C1:=Lib.hid c1
     have HSM:=Lib.hid hsm
     have HSY:=Lib.hid hsy
     have HM1:=Lib.hid hm1
     have HM2:=Lib.hid hm2
     clear c1 hsx hsy hsm hm1 hm2 hM hg hdX h0
     go_wp2_with (go_at_call 165;refine (chain hb (C1.out _ (E.below hb))).mono ?_;clear hb;rintro e w1 ⟨rfl,hb⟩)
     exact ⟨⟨Y,M,by rw [HSY.out],by rw [HSM.out],hdY,hdm,hgc,hb⟩,by rw [HM1.out,HM2.out];exact hlt⟩
end Go.Proofs.YtejfiegmdllfbaaGreatDoor.Kl
