import Derived.Test.YtpiiclmkbplkhaaGreatDoorKlBDivide
import Derived.Test.YtpiiclmkbplkhaaGreatDoorKlBMulI
namespace Go.Proofs.YtpiiclmkbplkhaaGreatDoor.Kl
open Go Go.RowKit
set_option maxRecDepth 100000
set_option maxHeartbeats 8000000
theorem ediv_minus (X Y:Nat) (hY:0 < Y) (h:X % Y≠0):(-(X:Int)) / (Y:Int) = -((X / Y+1:Nat):Int)∧(-(X:Int)) % (Y:Int)=((Y - X % Y:Nat):Int):=by
 have h1:=Nat.mod_lt X hY
 have h2:=Nat.mod_add_div X Y
 refine (Int.ediv_emod_unique (by omega:(0:Int) < Y)).2 ⟨?_,by omega,by omega⟩
 have e:((Y*(X / Y):Nat):Int)=(Y:Int)*((X / Y:Nat):Int):=by rw [Int.natCast_mul]
 rw [Int.mul_neg,Int.natCast_add,Int.mul_add]
 omega
theorem ediv_minus0 (X Y:Nat) (hY:0 < Y) (h:X % Y=0):(-(X:Int)) / (Y:Int) = -((X / Y:Nat):Int)∧(-(X:Int)) % (Y:Int)=0:=by
 have h2:=Nat.mod_add_div X Y
 refine (Int.ediv_emod_unique (by omega:(0:Int) < Y)).2 ⟨?_,by omega,by omega⟩
 have e:((Y*(X / Y):Nat):Int)=(Y:Int)*((X / Y:Nat):Int):=by rw [Int.natCast_mul]
 rw [Int.mul_neg]
 omega
theorem dm_neg {b2:Bool} {X Y:Nat} {x y:Int} (h1:sgI true X=x) (h2:sgI b2 Y=y) (hY:0 < Y) (hR:X % Y≠0):sgI (true != b2) (X / Y+1)=x / y∧sgI false (Y - X % Y)=x % y:=by
 obtain ⟨e1,e2⟩:=ediv_minus X Y hY hR
 subst h1 h2
 rw [sgI_t,sgI_f]
 cases b2
 · rw [sgI_f,e1,e2];exact ⟨rfl,rfl⟩
 · rw [sgI_t,Int.ediv_neg,Int.emod_neg,e1,e2,Int.neg_neg];exact ⟨rfl,rfl⟩
theorem dm_pos {b1 b2:Bool} {X Y:Nat} {x y:Int} (h1:sgI b1 X=x) (h2:sgI b2 Y=y) (hY:0 < Y) (hR:b1=true→X % Y=0):sgI (b1 != b2) (X / Y)=x / y∧sgI false (X % Y)=x % y:=by
 subst h1 h2
 rw [sgI_f]
 cases b1
 · rw [sgI_f]
   cases b2
   · rw [sgI_f,← Int.natCast_ediv,← Int.natCast_emod];exact ⟨rfl,rfl⟩
   · rw [sgI_t,Int.ediv_neg,Int.emod_neg,← Int.natCast_ediv,← Int.natCast_emod];exact ⟨rfl,rfl⟩
 · rw [sgI_t]
   obtain ⟨e1,e2⟩:=ediv_minus0 X Y hY (hR rfl)
   rw [hR rfl]
   cases b2
   · rw [sgI_f,e1,e2];exact ⟨rfl,rfl⟩
   · rw [sgI_t,Int.ediv_neg,Int.emod_neg,e1,e2,Int.neg_neg];exact ⟨rfl,rfl⟩
theorem chainQ {P:Program} {K:FuncId} {args:Array Value} {w w0:World} {Q R:Nat} (hb:Below w0.heap.size w0 w) (h:Calls P K args w (RetQ w Q R)) :
   Calls P K args w fun e w' => ∃ p1 n1 c1 p2 n2 c2,e = .returned (.tuple #[.slice p1 n1 c1,.slice p2 n2 c2])∧Sm w' p1 n1 c1 Q∧Sm w' p2 n2 c2 R∧Below w.heap.size w w'∧Below w0.heap.size w0 w':=
 h.mono fun _ _ ⟨p1,n1,c1,p2,n2,c2,e,h1,h2,h3⟩=>⟨p1,n1,c1,p2,n2,c2,e,h1,h2,h3,hb.trans (h3.mono hb.size)⟩
theorem sm_one (w:World):Sm (w.alloc (.cells #[.int .i64 1] 3)) (some ⟨w.heap.size,0,none⟩) 1 1 1:=by
 have h1:pcM 1=[1]:=pcM_small 1 (by decide) (by decide)
 refine ⟨by rw [h1];rfl,Nat.le_refl _,by omega,(fun h=>by cases h),?_⟩
 rw [h1]
 refine Or.inr ⟨w.heap.size,0,rfl,by simp,fun i hi=>?_⟩
 obtain rfl:i=0:=by simpa using hi
 rw [World.cell?_alloc_new];rfl
theorem two_blocks (w2:World) (b1 b2:Bool) (p1 p2:Option Addr) (n1 c1 n2 c2:Nat):∃ W3,(w2.alloc (Obj.cells #[Value.bool b1,Value.slice p1 n1 c1] 137)).alloc (Obj.cells #[Value.bool b2,Value.slice p2 n2 c2] 137)=W3 ∧
   W3.heap.size=w2.heap.size+2∧Below w2.heap.size w2 W3∧W3.cell? ⟨w2.heap.size,0,none⟩=some (Value.bool b1)∧W3.cell? ⟨w2.heap.size,1,none⟩=some (Value.slice p1 n1 c1) ∧
   W3.cell? ⟨w2.heap.size+1,0,none⟩=some (Value.bool b2)∧W3.cell? ⟨w2.heap.size+1,1,none⟩=some (Value.slice p2 n2 c2):=by
 refine ⟨_,rfl,by simp only [World.size_alloc],((Below.refl _ _).alloc (Nat.le_refl _) _).alloc (by simp) _,?_⟩
 have k0:((w2.alloc (Obj.cells #[Value.bool b1,Value.slice p1 n1 c1] 137)).alloc (Obj.cells #[Value.bool b2,Value.slice p2 n2 c2] 137)).heap[w2.heap.size]? = some (Obj.cells #[Value.bool b1,Value.slice p1 n1 c1] 137 (0,0)):=by rw [Below.heap_alloc _ _ _ (by simp)];exact World.alloc_heap_new w2 _
 have k1:=World.alloc_heap_new (w2.alloc (Obj.cells #[Value.bool b1,Value.slice p1 n1 c1] 137)) (Obj.cells #[Value.bool b2,Value.slice p2 n2 c2] 137)
 rw [World.size_alloc] at k1
 exact ⟨zA k0,zA k0,zA k1,zA k1⟩
theorem divMod_long (x y:Int) (w:World) (E:Env w) (hs:18 < max ((itoaB x).size:Int) ((itoaB y).size:Int)) (hx:dlen x≤40000) (hy:dlen y≤40000) (hyz:y≠0) :
   Calls Tryz.prog 126 #[.string (itoaB x),.string (itoaB y)] w (Ret w (.tuple #[.string (itoaB (x / y)),.string (itoaB (x % y)),.int .i64 0])):=by
 have k1:∀ w,Calls Tryz.prog 105 #[.string (itoaB x),.string (itoaB y)] w (Ret w (.tuple #[.int .i64 0,.int .i64 0,.bool false])):=fun w=>ints_long _ _ w hs
 have r1:∀ w,Calls Tryz.prog 107 #[.string (itoaB x)] w (RetN w x):=fun w=>read_itoa x w (by omega)
 have r2:∀ w,Calls Tryz.prog 107 #[.string (itoaB y)] w (RetN w y):=fun w=>read_itoa y w (by omega)
 have HX:Hid ((pcM x.natAbs).length≤90000):=Lib.hid (by unfold dlen at hx;have:=pcM_len_dec x.natAbs 40000 hx;omega)
 have HY:Hid ((pcM y.natAbs).length≤90000):=Lib.hid (by unfold dlen at hy;have:=pcM_len_dec y.natAbs 40000 hy;omega)
 have HYP:Hid (0 < y.natAbs):=Lib.hid (by omega)
 have hl1:(pcM (x.natAbs / y.natAbs+1)).length≤100000:=by
   have h1:x.natAbs / y.natAbs+1≤x.natAbs+1:=Nat.succ_le_succ (Nat.div_le_self _ _)
   have h2:=pcM_len_mono h1
   have h3:(pcM (x.natAbs+1)).length≤(pcM x.natAbs).length+1:=pcM_len _ _ (by have:=pcM_lt x.natAbs;rw [Nat.pow_succ];omega)
   have:=HX.out
   omega
 have hl0:(pcM (x.natAbs / y.natAbs)).length≤100000:=by have:=pcM_len_mono (Nat.div_le_self x.natAbs y.natAbs);have:=HX.out;omega
 have hr0:(pcM (x.natAbs % y.natAbs)).length≤100000:=by have:=pcM_len_mono (Nat.mod_le x.natAbs y.natAbs);have:=HX.out;omega
 have hr1:(pcM (y.natAbs - x.natAbs % y.natAbs)).length≤100000:=by have:=pcM_len_mono (Nat.sub_le y.natAbs (x.natAbs % y.natAbs));have:=HY.out;omega
 have HL1:=Lib.hid hl1
 have HL0:=Lib.hid hl0
 have HR0:=Lib.hid hr0
 have HR1:=Lib.hid hr1
 have hne:∀ p n c w,Sm w p n c y.natAbs→n≠0:=fun p n c w h e=>by
   have:=h.len
   rw [e] at this
   have:=pcM_nil this.symm
   omega
 have HNE:=Lib.hid hne
 obtain ⟨q,hq⟩:∃ q,itoaB (x / y)=q:=⟨_,rfl⟩
 obtain ⟨r,hr⟩:∃ r,itoaB (x % y)=r:=⟨_,rfl⟩
 obtain ⟨a,ha⟩:∃ a,itoaB x=a:=⟨_,rfl⟩
 obtain ⟨b,hb'⟩:∃ b,itoaB y=b:=⟨_,rfl⟩
 have HQ:Hid (itoaB (x / y)=q):=Lib.hid hq
 have HR:Hid (itoaB (x % y)=r):=Lib.hid hr
 rw [hq,hr,ha,hb']
 rw [ha,hb'] at k1
 rw [ha] at r1
 rw [hb'] at r2
 have K1:=Lib.hid k1
 have R1:=Lib.hid r1
 have R2:=Lib.hid r2
 clear k1 r1 r2 ha hb' hs hx hy hq hr hl1 hl0 hr0 hr1 hyz hne
 have hb:=Below.refl w.heap.size w
 go_enter Tryz.func126,Tryz.ntmps126
 go_upto_region 6 with (first | (go_at_call 105;refine (chain hb (K1.out _)).mono ?_;clear hb;rintro e w1 ⟨rfl,hb⟩) | (go_at_call 107;first | (with_reducible refine (chainN hb (R1.out _)).mono ?_;clear hb;rintro e w1 ⟨b1,p1,n1,c1,rfl,hs1,hb⟩) | (with_reducible refine (chainN hb (R2.out _)).mono ?_;clear hb;rintro e w2 ⟨b2,p2,n2,c2,rfl,hs2,hb⟩)))
 obtain ⟨W3,hW3,hs3,hb23,f0,f1,f2,f3⟩:=two_blocks w2 b1 b2 p1 p2 n1 c1 n2 c2
 rw [hW3]
 have hb3:Below w.heap.size w W3:=hb.trans (hb23.mono hb.size)
 have hn2:n2≠0:=HNE.out _ _ _ _ hs2.out.1
 have hn2z:((n2:Int) == 0)=false:=by rw [beq_eq_false_iff_ne];omega
 have HX3:=Lib.hid (((hs1.out.1.below hs2.out.2.2).below hb23))
 have HY3:=Lib.hid (hs2.out.1.below hb23)
 have S1:=Lib.hid hs1.out.2.1
 have S2:=Lib.hid hs2.out.2.1
 have HS3:=Lib.hid hs3
 clear hW3 hb hb23 hs1 hs2 R1 R2 K1 hs3
 go_upto_region 9 with (go_at_call 133;refine (chainQ hb3 (divide_sm HX3.out HY3.out HX.out HY.out (Nat.ne_of_gt HYP.out))).mono ?_;rintro e w5 ⟨p5,n5,c5,p6,n6,c6,rfl,hs5,hs6,hb35,hb5⟩;have HS5:=Lib.hid hs5;have HS6:=Lib.hid hs6;have HB5:=Lib.hid hb5;have HB35:=Lib.hid hb35;clear hs5 hs6 hb35 hb5 hb3;refine Hid.out ?_)
 refine Lib.hid ?_
 have g0:=(HB35.out.cell (p:=⟨w2.heap.size,0,none⟩) (by have:=HS3.out;show w2.heap.size < W3.heap.size;omega)).trans f0
 have g1:=(HB35.out.cell (p:=⟨w2.heap.size,1,none⟩) (by have:=HS3.out;show w2.heap.size < W3.heap.size;omega)).trans f1
 have g2:=(HB35.out.cell (p:=⟨w2.heap.size+1,0,none⟩) (by have:=HS3.out;show w2.heap.size+1 < W3.heap.size;omega)).trans f2
 have g3:=(HB35.out.cell (p:=⟨w2.heap.size+1,1,none⟩) (by have:=HS3.out;show w2.heap.size+1 < W3.heap.size;omega)).trans f3
 have HZ5:Hid (w2.heap.size+2≤w5.heap.size):=Lib.hid (by have h1:=HB35.out.size;have h2:=HS3.out;omega)
 have hn6:=HS6.out.len
 clear f0 f1 f2 f3
 by_cases hA:b1=true∧n6≠0
 · obtain ⟨rfl,hn6z⟩:=hA
   have hRz:x.natAbs % y.natAbs≠0:=fun e=>hn6z (by rw [hn6,e,pcM_zero];rfl)
   obtain ⟨e1,e2⟩:=dm_neg S1.out S2.out HYP.out hRz
   have hgt:(0:Int) < (n6:Int):=by omega
   have e1':sgI (!b2) (x.natAbs / y.natAbs+1)=x / y:=by cases b2 <;> exact e1
   have E1:=Lib.hid e1'
   have E2:=Lib.hid e2
   have hle9:x.natAbs % y.natAbs≤y.natAbs:=Nat.le_of_lt (Nat.mod_lt _ HYP.out)
   have cp:Calls Tryz.prog 152 #[.slice p5 n5 c5,.slice (some ⟨w5.heap.size,0,none⟩) 1 1] (w5.drew.alloc (.cells #[.int .i64 1] 3)) (RetP (w5.drew.alloc (.cells #[.int .i64 1] 3)) (pcM (x.natAbs / y.natAbs+1))):=
     plus_sm (HS5.out.below ((Below.refl _ _).drew.alloc (Nat.le_refl _) _)) (sm_one w5.drew) HL0.out (by rw [pcM_small 1 (by decide) (by decide)];decide)
   have CP:=Lib.hid cp
   have HBA:Hid (Below w5.heap.size w5 (w5.drew.alloc (.cells #[.int .i64 1] 3))):=Lib.hid ((Below.refl _ _).drew.alloc (Nat.le_refl _) _)
   have HLE:=Lib.hid hle9
   have HY9:Hid ((pcM y.natAbs).length≤100000):=Lib.hid (by have:=HY.out;omega)
   clear cp e1 e1' e2 hRz hn6 hn6z hle9
   go_upto_region 10 with fail
   go_region_held3 (fun w' => w'.cell? ⟨w2.heap.size,0,none⟩=some (Value.bool true)∧w'.cell? ⟨w2.heap.size+1,0,none⟩=some (Value.bool b2)∧w'.cell? ⟨w2.heap.size+1,1,none⟩=some (Value.slice p2 n2 c2))
     (first | go_keep | exact ⟨i0,i2,i3⟩ | exact ⟨j0,j2,j3⟩)
     (first | (go_at_call 152;refine CP.out.mono ?_;rintro e w7 ⟨p7,n7,c7,rfl,hr7⟩;have hb7:=hr7.2.2.2.2.2;have HR7:=Lib.hid hr7;have hb57:=HBA.out.trans (hb7.mono HBA.out.size);have i0:=(hb57.cell (p:=⟨w2.heap.size,0,none⟩) (by have:=HZ5.out;show w2.heap.size < w5.heap.size;omega)).trans g0;have i2:=(hb57.cell (p:=⟨w2.heap.size+1,0,none⟩) (by have:=HZ5.out;show w2.heap.size+1 < w5.heap.size;omega)).trans g2;have i3:=(hb57.cell (p:=⟨w2.heap.size+1,1,none⟩) (by have:=HZ5.out;show w2.heap.size+1 < w5.heap.size;omega)).trans g3;have HB57:=Lib.hid hb57;clear hb7 hr7 hb57) | (go_at_call 153;refine (less_sm ((HY3.out.below HB35.out).below HB57.out) (HS6.out.below HB57.out) HY9.out HR0.out HLE.out).mono ?_;rintro e w8 ⟨p8,n8,c8,rfl,hr8⟩;have hb8:=hr8.2.2.2.2.2;have HR8:=Lib.hid hr8;have hb58:=HB57.out.trans (hb8.mono HB57.out.size);have j0:=(hb58.cell (p:=⟨w2.heap.size,0,none⟩) (by have:=HZ5.out;show w2.heap.size < w5.heap.size;omega)).trans g0;have j2:=(hb58.cell (p:=⟨w2.heap.size+1,0,none⟩) (by have:=HZ5.out;show w2.heap.size+1 < w5.heap.size;omega)).trans g2;have j3:=(hb58.cell (p:=⟨w2.heap.size+1,1,none⟩) (by have:=HZ5.out;show w2.heap.size+1 < w5.heap.size;omega)).trans g3;have HB78:=Lib.hid hb8;have HB8:=Lib.hid (HB5.out.trans (hb58.mono HB5.out.size));clear hb8 hr8 hb58))
   have G7:=Lib.hid (show Sm w7 p7 n7 c7 (x.natAbs / y.natAbs+1) from ⟨HR7.out.1,HR7.out.2.1,HR7.out.2.2.1,HR7.out.2.2.2.1,HR7.out.2.2.2.2.1⟩)
   have G8:=Lib.hid (show Sm w8 p8 n8 c8 (y.natAbs - x.natAbs % y.natAbs) from ⟨HR8.out.1,HR8.out.2.1,HR8.out.2.2.1,HR8.out.2.2.2.1,HR8.out.2.2.2.2.1⟩)
   go_wp2_with (go_at_call 109;first | (with_reducible refine (chain2 HB8.out (text_z (E.below HB8.out) (G7.out.below HB78.out) E1.out HL1.out)).mono ?_;rintro e w9 ⟨rfl,hb89,hb9⟩) | (with_reducible refine (chain hb9 (text_z (E.below hb9) (G8.out.below hb89) E2.out HR1.out)).mono ?_;rintro e wz ⟨rfl,hbz⟩))
   go_ret3
   exact ⟨retSSI HQ.out HR.out rfl,hbz⟩
 · have hR9:b1=true→x.natAbs % y.natAbs=0:=fun h=>by
     have:n6=0:=by
       rcases Nat.eq_zero_or_pos n6 with h0 | h0
       · exact h0
       · exact absurd ⟨h,by omega⟩ hA
     rw [this] at hn6
     exact pcM_nil hn6.symm
   obtain ⟨e1,e2⟩:=dm_pos S1.out S2.out HYP.out hR9
   have E2:=Lib.hid e2
   cases b1
   · have e1':sgI b2 (x.natAbs / y.natAbs)=x / y:=by cases b2 <;> exact e1
     have E1:=Lib.hid e1'
     clear hA hR9 e1 e1' e2 hn6
     go_wp2_with (go_at_call 109;first | (with_reducible refine (chain2 HB5.out (text_z (E.below HB5.out) HS5.out E1.out HL0.out)).mono ?_;rintro e w7 ⟨rfl,hb57,hb7⟩) | (with_reducible refine (chain hb7 (text_z (E.below hb7) (HS6.out.below hb57) E2.out HR0.out)).mono ?_;rintro e w8 ⟨rfl,hb8⟩))
     go_ret3
     exact ⟨retSSI HQ.out HR.out rfl,hb8⟩
   · have e1':sgI (!b2) (x.natAbs / y.natAbs)=x / y:=by cases b2 <;> exact e1
     have E1:=Lib.hid e1'
     have hz6:n6=0:=by
       rcases Nat.eq_zero_or_pos n6 with h0 | h0
       · exact h0
       · exact absurd ⟨rfl,by omega⟩ hA
     have hgt:¬ (0:Int) < (n6:Int):=by omega
     have hgb:decide ((0:Int) < (n6:Int))=false:=decide_eq_false hgt
     clear hz6 hA hR9 e1 e1' e2 hn6
     go_wp2_with (go_at_call 109;first | (with_reducible refine (chain2 HB5.out (text_z (E.below HB5.out) HS5.out E1.out HL0.out)).mono ?_;rintro e w7 ⟨rfl,hb57,hb7⟩) | (with_reducible refine (chain hb7 (text_z (E.below hb7) (HS6.out.below hb57) E2.out HR0.out)).mono ?_;rintro e w8 ⟨rfl,hb8⟩))
     go_ret3
     exact ⟨retSSI HQ.out HR.out rfl,hb8⟩
theorem divMod_any (x y:Int) (w:World) (E:Env w) (hx:dlen x≤40000) (hy:dlen y≤40000) (hyz:y≠0) :
   Calls Tryz.prog 126 #[.string (itoaB x),.string (itoaB y)] w (Ret w (.tuple #[.string (itoaB (x / y)),.string (itoaB (x % y)),.int .i64 0])):=by
 by_cases hs:(itoaB x).size≤18∧(itoaB y).size≤18
 · have bx:=short_bound x hs.1
   have b2:=short_bound y hs.2
   exact divMod_short _ _ w hs.1 hs.2 x y (short_small x hs.1) (short_small y hs.2) E bx.1 bx.2 b2.1 b2.2 hyz
 · exact divMod_long x y w E (by omega) hx hy hyz
end Go.Proofs.YtpiiclmkbplkhaaGreatDoor.Kl
namespace Go.Proofs.YtpiiclmkbplkhaaGreatDoor.Kl
open Go
set_option maxRecDepth 100000
set_option maxHeartbeats 8000000
def IsRoot (r X:Nat):Prop:=r*r≤X∧X < (r+1)*(r+1)
theorem sq_lt {a b:Nat} (h:a*a < b*b):a < b:=by
 rcases Nat.lt_or_ge a b with h1 | h1
 · exact h1
 · have:=Nat.mul_le_mul h1 h1;omega
theorem IsRoot.unique {r s X:Nat} (h:IsRoot r X) (k:IsRoot s X):r=s:=by
 have h1:=sq_lt (Nat.lt_of_le_of_lt h.1 k.2)
 have h2:=sq_lt (Nat.lt_of_le_of_lt k.1 h.2)
 omega
end Go.Proofs.YtpiiclmkbplkhaaGreatDoor.Kl
namespace Go.Proofs.YtpiiclmkbplkhaaGreatDoor.Kl
open Go Go.RowKit
set_option maxRecDepth 100000
set_option maxHeartbeats 8000000
set_option maxRecDepth 512 in
theorem value_sm {p:Option Addr} {n c X:Nat} {w:World} (h:Sm w p n c X) (hl:(pcM X).length≤2) :
   Calls Tryz.prog 135 #[.slice p n c] w fun e w' => e = .returned (.int .i64 X)∧w=w':=by
 have a1:Calls Tryz.prog 161 #[.slice p n c,.int .i64 1] w fun e w' => e = .returned (.int .i64 ((pcM X)[1]?.getD 0))∧w=w':=at_any p n c (pcM X) 1 w h.len (by rw [h.len];omega) (by decide) h.has
 have a0:Calls Tryz.prog 161 #[.slice p n c,.int .i64 0] w fun e w' => e = .returned (.int .i64 ((pcM X)[0]?.getD 0))∧w=w':=at_any p n c (pcM X) 0 w h.len (by rw [h.len];omega) (by decide) h.has
 have e:=pval_psum 1000000000 (pcM X) 2 hl
 rw [(pcM_isP X).2] at e
 have e2:(X:Int)=(pcM X)[0]?.getD 0+1000000000*(pcM X)[1]?.getD 0:=by rw [e];simp [psum]
 have i1:=pcM_in X 1
 have i0:=pcM_in X 0
 obtain ⟨y1,h1⟩:∃ y,(pcM X)[1]?.getD 0=y:=⟨_,rfl⟩
 obtain ⟨y0,h0⟩:∃ y,(pcM X)[0]?.getD 0=y:=⟨_,rfl⟩
 rw [h1] at a1 i1 e2
 rw [h0] at a0 i0 e2
 have z1:IntKind.i64.wrap (y1*1000000000)=y1*1000000000:=IntWalk.i64_in _ (by omega)
 have z2:IntKind.i64.wrap (y1*1000000000+y0)=(X:Int):=by rw [e2,show y0+1000000000*y1=y1*1000000000+y0 by omega];exact IntWalk.i64_in _ (by omega)
 have A1:=Lib.hid a1
 have A0:=Lib.hid a0
 clear a1 a0 e e2 h1 h0 h
 go_enter Tryz.func135,Tryz.ntmps135
 go_wp2_with (go_at_call 161;first | (with_reducible refine A1.out.mono ?_;rintro e w1 ⟨rfl,rfl⟩) | (with_reducible refine A0.out.mono ?_;rintro e w1 ⟨rfl,rfl⟩))
 go_ret
 exact ⟨rfl,rfl⟩
theorem Sm.unique {w:World} {p:Option Addr} {n c X Y:Nat} (h:Sm w p n c X) (k:Sm w p n c Y):X=Y:=by
 have e:pcM X=pcM Y:=by
   rcases h.has with h1 | ⟨b,o,hp,_,hc⟩
   · have h2:=h.len
     have h3:=k.len
     rw [h1] at h2
     have:(pcM Y).length=0:=by rw [← h3,h2];rfl
     rw [h1,List.length_eq_zero_iff.1 this]
   · rcases k.has with k1 | ⟨b',o',hp',_,hc'⟩
     · have h2:=h.len
       have h3:=k.len
       rw [k1] at h3
       have:(pcM X).length=0:=by rw [← h2,h3];rfl
       rw [k1,List.length_eq_zero_iff.1 this]
     · rw [hp] at hp'
       injection hp' with hp'
       injection hp' with e1 e2
       subst e1 e2
       have hl:(pcM X).length=(pcM Y).length:=by rw [← h.len,← k.len]
       refine List.ext_getElem hl fun i h1 h2=>?_
       have a:=hc i h1
       rw [hc' i h2] at a
       injection a with a
       injection a with _ a
       rw [List.getElem?_eq_getElem h1,List.getElem?_eq_getElem h2] at a
       exact a.symm
 have h1:=(pcM_isP X).2
 rw [e,(pcM_isP Y).2] at h1
 omega
theorem sm_val {w:World} {p:Option Addr} {n c X:Nat} (h:Sm w p n c X):Classical.epsilon (fun g:Nat=>∃ p' n' c',Value.slice p n c=Value.slice p' n' c'∧Sm w p' n' c' g)=X:=by
 have:=Classical.epsilon_spec (p:=fun g:Nat=>∃ p' n' c',Value.slice p n c=Value.slice p' n' c'∧Sm w p' n' c' g) ⟨X,p,n,c,rfl,h⟩
 obtain ⟨p',n',c',e,h2⟩:=this
 injection e with e1 e2 e3
 subst e1 e2 e3
 exact h2.unique h
theorem dlen_nat_le (N:Nat) (z:Int) (K:Nat) (hK:0 < K) (h:N≤z.natAbs) (hz:dlen z≤K):dlen (N:Int)≤K:=by
 unfold dlen at *
 exact dec_len_le _ _ (Nat.lt_of_le_of_lt h (Nat.lt_of_lt_of_le (dig_lt z.natAbs) (Nat.pow_le_pow_right (by decide) hz))) hK
end Go.Proofs.YtpiiclmkbplkhaaGreatDoor.Kl
