import Derived.Test.YtpphjnekkjeacaaGreatDoorKlSRootsDivide
import Derived.Test.YtpphjnekkjeacaaGreatDoorKlSRootsMulIZ
namespace Go.Proofs.YtpphjnekkjeacaaGreatDoor.Kl
open Go Go.RowKit
set_option maxRecDepth 100000
set_option maxHeartbeats 8000000
theorem ediv_minus (X Y:Nat) (hY:0 < Y) (h:X % Y≠0):(-(X:Int)) / (Y:Int) = -((X / Y+1:Nat):Int)∧(-(X:Int)) % (Y:Int)=((Y - X % Y:Nat):Int):=by
 have h1:=Nat.mod_lt X hY
 have h2:=Nat.mod_add_div X Y
 refine (Int.ediv_emod_unique (by omega:(0:Int) < Y)).2 ⟨?_,by omega,by omega⟩
 have e:((Y*(X / Y):Nat):Int)=(Y:Int)*((X / Y:Nat):Int):=by rw [Int.natCast_mul]
 rw [Int.mul_neg,Int.natCast_add,Int.mul_add]
 omega
theorem ediv_minus0 (X Y:Nat) (hY:0 < Y) (h:X % Y=0):(-(X:Int)) / (Y:Int) = -((X / Y:Nat):Int)∧(-(X:Int)) % (Y:Int)=0:=by
 have h2:=Nat.mod_add_div X Y
 refine (Int.ediv_emod_unique (by omega:(0:Int) < Y)).2 ⟨?_,by omega,by omega⟩
 have e:((Y*(X / Y):Nat):Int)=(Y:Int)*((X / Y:Nat):Int):=by rw [Int.natCast_mul]
 rw [Int.mul_neg]
 omega
theorem dm_neg {b2:Bool} {X Y:Nat} {x y:Int} (h1:sgI true X=x) (h2:sgI b2 Y=y) (hY:0 < Y) (hR:X % Y≠0):sgI (true != b2) (X / Y+1)=x / y∧sgI false (Y - X % Y)=x % y:=by
 obtain ⟨e1,e2⟩:=ediv_minus X Y hY hR
 subst h1 h2
 rw [sgI_t,sgI_f]
 cases b2
 · rw [sgI_f,e1,e2];exact ⟨rfl,rfl⟩
 · rw [sgI_t,Int.ediv_neg,Int.emod_neg,e1,e2,Int.neg_neg];exact ⟨rfl,rfl⟩
theorem dm_pos {b1 b2:Bool} {X Y:Nat} {x y:Int} (h1:sgI b1 X=x) (h2:sgI b2 Y=y) (hY:0 < Y) (hR:b1=true→X % Y=0):sgI (b1 != b2) (X / Y)=x / y∧sgI false (X % Y)=x % y:=by
 subst h1 h2
 rw [sgI_f]
 cases b1
 · rw [sgI_f]
   cases b2
   · rw [sgI_f,← Int.natCast_ediv,← Int.natCast_emod];exact ⟨rfl,rfl⟩
   · rw [sgI_t,Int.ediv_neg,Int.emod_neg,← Int.natCast_ediv,← Int.natCast_emod];exact ⟨rfl,rfl⟩
 · rw [sgI_t]
   obtain ⟨e1,e2⟩:=ediv_minus0 X Y hY (hR rfl)
   rw [hR rfl]
   cases b2
   · rw [sgI_f,e1,e2];exact ⟨rfl,rfl⟩
   · rw [sgI_t,Int.ediv_neg,Int.emod_neg,e1,e2,Int.neg_neg];exact ⟨rfl,rfl⟩
theorem chainQ {P:Program} {K:FuncId} {args:Array Value} {w w0:World} {Q R:Nat} (hb:Below w0.heap.size w0 w) (h:Calls P K args w (RetQ w Q R)) :
   Calls P K args w fun e w' => ∃ p1 n1 c1 p2 n2 c2,e = .returned (.tuple #[.slice p1 n1 c1,.slice p2 n2 c2])∧Sm w' p1 n1 c1 Q∧Sm w' p2 n2 c2 R∧Below w.heap.size w w'∧Below w0.heap.size w0 w':=
 h.mono fun _ _ ⟨p1,n1,c1,p2,n2,c2,e,h1,h2,h3⟩=>⟨p1,n1,c1,p2,n2,c2,e,h1,h2,h3,hb.trans (h3.mono hb.size)⟩
theorem sm_one (w:World):Sm (w.alloc (.cells #[.int .i64 1] 3)) (some ⟨w.heap.size,0,none⟩) 1 1 1:=by
 have h1:pcM 1=[1]:=pcM_small 1 (by decide) (by decide)
 refine ⟨by rw [h1];rfl,Nat.le_refl _,by omega,(fun h=>by cases h),?_⟩
 rw [h1]
 refine Or.inr ⟨w.heap.size,0,rfl,by simp,fun i hi=>?_⟩
 obtain rfl:i=0:=by simpa using hi
 rw [World.cell?_alloc_new];rfl
theorem two_blocks (w2:World) (b1 b2:Bool) (p1 p2:Option Addr) (n1 c1 n2 c2:Nat):∃ W3,(w2.alloc (Obj.cells #[Value.bool b1,Value.slice p1 n1 c1] 167)).alloc (Obj.cells #[Value.bool b2,Value.slice p2 n2 c2] 167)=W3 ∧
   W3.heap.size=w2.heap.size+2∧Below w2.heap.size w2 W3∧W3.cell? ⟨w2.heap.size,0,none⟩=some (Value.bool b1)∧W3.cell? ⟨w2.heap.size,1,none⟩=some (Value.slice p1 n1 c1) ∧
   W3.cell? ⟨w2.heap.size+1,0,none⟩=some (Value.bool b2)∧W3.cell? ⟨w2.heap.size+1,1,none⟩=some (Value.slice p2 n2 c2):=by
 refine ⟨_,rfl,by simp only [World.size_alloc],((Below.refl _ _).alloc (Nat.le_refl _) _).alloc (by simp) _,?_⟩
 have k0:((w2.alloc (Obj.cells #[Value.bool b1,Value.slice p1 n1 c1] 167)).alloc (Obj.cells #[Value.bool b2,Value.slice p2 n2 c2] 167)).heap[w2.heap.size]? = some (Obj.cells #[Value.bool b1,Value.slice p1 n1 c1] 167 (0,0)):=by rw [Below.heap_alloc _ _ _ (by simp)];exact World.alloc_heap_new w2 _
 have k1:=World.alloc_heap_new (w2.alloc (Obj.cells #[Value.bool b1,Value.slice p1 n1 c1] 167)) (Obj.cells #[Value.bool b2,Value.slice p2 n2 c2] 167)
 rw [World.size_alloc] at k1
 exact ⟨zA k0,zA k0,zA k1,zA k1⟩
theorem divMod_long (x y:Int) (w:World) (E:Env w) (hs:18 < max ((itoaB x).size:Int) ((itoaB y).size:Int)) (hx:dlen x≤40000) (hy:dlen y≤40000) (hyz:y≠0) :
   Calls Tryz.prog 119 #[.string (itoaB x),.string (itoaB y)] w (Ret w (.tuple #[.string (itoaB (x / y)),.string (itoaB (x % y)),.int .i64 0])):=by
 have k1:∀ w,Calls Tryz.prog 120 #[.string (itoaB x),.string (itoaB y)] w (Ret w (.tuple #[.int .i64 0,.int .i64 0,.bool false])):=fun w=>ints_long _ _ w hs
 have r1:∀ w,Calls Tryz.prog 121 #[.string (itoaB x)] w (RetN w x):=fun w=>read_itoa x w (by omega)
 have r2:∀ w,Calls Tryz.prog 121 #[.string (itoaB y)] w (RetN w y):=fun w=>read_itoa y w (by omega)
 have HX:Hid ((pcM x.natAbs).length≤90000):=Lib.hid (by unfold dlen at hx;have:=pcM_len_dec x.natAbs 40000 hx;omega)
 have HY:Hid ((pcM y.natAbs).length≤90000):=Lib.hid (by unfold dlen at hy;have:=pcM_len_dec y.natAbs 40000 hy;omega)
 have HYP:Hid (0 < y.natAbs):=Lib.hid (by omega)
 have hl1:(pcM (x.natAbs / y.natAbs+1)).length≤100000:=by
   have h1:x.natAbs / y.natAbs+1≤x.natAbs+1:=Nat.succ_le_succ (Nat.div_le_self _ _)
   have h2:=pcM_len_mono h1
   have h3:(pcM (x.natAbs+1)).length≤(pcM x.natAbs).length+1:=pcM_len _ _ (by have:=pcM_lt x.natAbs;rw [Nat.pow_succ];omega)
   have:=HX.out
   omega
 have hl0:(pcM (x.natAbs / y.natAbs)).length≤100000:=by have:=pcM_len_mono (Nat.div_le_self x.natAbs y.natAbs);have:=HX.out;omega
 have hr0:(pcM (x.natAbs % y.natAbs)).length≤100000:=by have:=pcM_len_mono (Nat.mod_le x.natAbs y.natAbs);have:=HX.out;omega
 have hr1:(pcM (y.natAbs - x.natAbs % y.natAbs)).length≤100000:=by have:=pcM_len_mono (Nat.sub_le y.natAbs (x.natAbs % y.natAbs));have:=HY.out;omega
 have HL1:=Lib.hid hl1
 have HL0:=Lib.hid hl0
 have HR0:=Lib.hid hr0
 have HR1:=Lib.hid hr1
 have hne:∀ p n c w,Sm w p n c y.natAbs→n≠0:=fun p n c w h e=>by
   have:=h.len
   rw [e] at this
   have:=pcM_nil this.symm
   omega
 have HNE:=Lib.hid hne
 obtain ⟨q,hq⟩:∃ q,itoaB (x / y)=q:=⟨_,rfl⟩
 obtain ⟨r,hr⟩:∃ r,itoaB (x % y)=r:=⟨_,rfl⟩
 obtain ⟨a,ha⟩:∃ a,itoaB x=a:=⟨_,rfl⟩
 obtain ⟨b,hb'⟩:∃ b,itoaB y=b:=⟨_,rfl⟩
 have HQ:Hid (itoaB (x / y)=q):=Lib.hid hq
 have HR:Hid (itoaB (x % y)=r):=Lib.hid hr
 rw [hq,hr,ha,hb']
 rw [ha,hb'] at k1
 rw [ha] at r1
 rw [hb'] at r2
 have K1:=Lib.hid k1
 have R1:=Lib.hid r1
 have R2:=Lib.hid r2
 clear k1 r1 r2 ha hb' hs hx hy hq hr hl1 hl0 hr0 hr1 hyz hne
 have hb:=Below.refl w.heap.size w
 go_enter Tryz.func119,Tryz.ntmps119
 go_upto_region 6 with (first | (go_at_call 120;refine (chain hb (K1.out _)).mono ?_;clear hb;rintro e w1 ⟨rfl,hb⟩) | (go_at_call 121;first | (with_reducible refine (chainN hb (R1.out _)).mono ?_;clear hb;rintro e w1 ⟨b1,p1,n1,c1,rfl,hs1,hb⟩) | (with_reducible refine (chainN hb (R2.out _)).mono ?_;clear hb;rintro e w2 ⟨b2,p2,n2,c2,rfl,hs2,hb⟩)))
 obtain ⟨W3,hW3,hs3,hb23,f0,f1,f2,f3⟩:=two_blocks w2 b1 b2 p1 p2 n1 c1 n2 c2
 rw [hW3]
 have hb3:Below w.heap.size w W3:=hb.trans (hb23.mono hb.size)
 have hn2:n2≠0:=HNE.out _ _ _ _ hs2.out.1
 have hn2z:((n2:Int) == 0)=false:=by rw [beq_eq_false_iff_ne];omega
 have HX3:=Lib.hid (((hs1.out.1.below hs2.out.2.2).below hb23))
 have HY3:=Lib.hid (hs2.out.1.below hb23)
 have S1:=Lib.hid hs1.out.2.1
 have S2:=Lib.hid hs2.out.2.1
 have HS3:=Lib.hid hs3
 clear hW3 hb hb23 hs1 hs2 R1 R2 K1 hs3
 go_upto_region 9 with (go_at_call 161;refine (chainQ hb3 (divide_sm HX3.out HY3.out HX.out HY.out (Nat.ne_of_gt HYP.out))).mono ?_;rintro e w5 ⟨p5,n5,c5,p6,n6,c6,rfl,hs5,hs6,hb35,hb5⟩;have HS5:=Lib.hid hs5;have HS6:=Lib.hid hs6;have HB5:=Lib.hid hb5;have HB35:=Lib.hid hb35;clear hs5 hs6 hb35 hb5 hb3;refine Hid.out ?_)
 refine Lib.hid ?_
 have g0:=(HB35.out.cell (p:=⟨w2.heap.size,0,none⟩) (by have:=HS3.out;show w2.heap.size < W3.heap.size;omega)).trans f0
 have g1:=(HB35.out.cell (p:=⟨w2.heap.size,1,none⟩) (by have:=HS3.out;show w2.heap.size < W3.heap.size;omega)).trans f1
 have g2:=(HB35.out.cell (p:=⟨w2.heap.size+1,0,none⟩) (by have:=HS3.out;show w2.heap.size+1 < W3.heap.size;omega)).trans f2
 have g3:=(HB35.out.cell (p:=⟨w2.heap.size+1,1,none⟩) (by have:=HS3.out;show w2.heap.size+1 < W3.heap.size;omega)).trans f3
 have HZ5:Hid (w2.heap.size+2≤w5.heap.size):=Lib.hid (by have h1:=HB35.out.size;have h2:=HS3.out;omega)
 have hn6:=HS6.out.len
 clear f0 f1 f2 f3
 by_cases hA:b1=true∧n6≠0
 · obtain ⟨rfl,hn6z⟩:=hA
   have hRz:x.natAbs % y.natAbs≠0:=fun e=>hn6z (by rw [hn6,e,pcM_zero];rfl)
   obtain ⟨e1,e2⟩:=dm_neg S1.out S2.out HYP.out hRz
   have hgt:(0:Int) < (n6:Int):=by omega
   have e1':sgI (!b2) (x.natAbs / y.natAbs+1)=x / y:=by cases b2 <;> exact e1
   have E1:=Lib.hid e1'
   have E2:=Lib.hid e2
   have hle9:x.natAbs % y.natAbs≤y.natAbs:=Nat.le_of_lt (Nat.mod_lt _ HYP.out)
   have cp:Calls Tryz.prog 162 #[.slice p5 n5 c5,.slice (some ⟨w5.heap.size,0,none⟩) 1 1] (w5.drew.alloc (.cells #[.int .i64 1] 3)) (RetP (w5.drew.alloc (.cells #[.int .i64 1] 3)) (pcM (x.natAbs / y.natAbs+1))):=
     plus_sm (HS5.out.below ((Below.refl _ _).drew.alloc (Nat.le_refl _) _)) (sm_one w5.drew) HL0.out (by rw [pcM_small 1 (by decide) (by decide)];decide)
   have CP:=Lib.hid cp
   have HBA:Hid (Below w5.heap.size w5 (w5.drew.alloc (.cells #[.int .i64 1] 3))):=Lib.hid ((Below.refl _ _).drew.alloc (Nat.le_refl _) _)
   have HLE:=Lib.hid hle9
   have HY9:Hid ((pcM y.natAbs).length≤100000):=Lib.hid (by have:=HY.out;omega)
   clear cp e1 e1' e2 hRz hn6 hn6z hle9
   go_upto_region 10 with fail
   go_region_held3 (fun w' => w'.cell? ⟨w2.heap.size,0,none⟩=some (Value.bool true)∧w'.cell? ⟨w2.heap.size+1,0,none⟩=some (Value.bool b2)∧w'.cell? ⟨w2.heap.size+1,1,none⟩=some (Value.slice p2 n2 c2))
     (first | go_keep | exact ⟨i0,i2,i3⟩ | exact ⟨j0,j2,j3⟩)
     (first | (go_at_call 162;refine CP.out.mono ?_;rintro e w7 ⟨p7,n7,c7,rfl,hr7⟩;have hb7:=hr7.2.2.2.2.2;have HR7:=Lib.hid hr7;have hb57:=HBA.out.trans (hb7.mono HBA.out.size);have i0:=(hb57.cell (p:=⟨w2.heap.size,0,none⟩) (by have:=HZ5.out;show w2.heap.size < w5.heap.size;omega)).trans g0;have i2:=(hb57.cell (p:=⟨w2.heap.size+1,0,none⟩) (by have:=HZ5.out;show w2.heap.size+1 < w5.heap.size;omega)).trans g2;have i3:=(hb57.cell (p:=⟨w2.heap.size+1,1,none⟩) (by have:=HZ5.out;show w2.heap.size+1 < w5.heap.size;omega)).trans g3;have HB57:=Lib.hid hb57;clear hb7 hr7 hb57) | (go_at_call 163;refine (less_sm ((HY3.out.below HB35.out).below HB57.out) (HS6.out.below HB57.out) HY9.out HR0.out HLE.out).mono ?_;rintro e w8 ⟨p8,n8,c8,rfl,hr8⟩;have hb8:=hr8.2.2.2.2.2;have HR8:=Lib.hid hr8;have hb58:=HB57.out.trans (hb8.mono HB57.out.size);have j0:=(hb58.cell (p:=⟨w2.heap.size,0,none⟩) (by have:=HZ5.out;show w2.heap.size < w5.heap.size;omega)).trans g0;have j2:=(hb58.cell (p:=⟨w2.heap.size+1,0,none⟩) (by have:=HZ5.out;show w2.heap.size+1 < w5.heap.size;omega)).trans g2;have j3:=(hb58.cell (p:=⟨w2.heap.size+1,1,none⟩) (by have:=HZ5.out;show w2.heap.size+1 < w5.heap.size;omega)).trans g3;have HB78:=Lib.hid hb8;have HB8:=Lib.hid (HB5.out.trans (hb58.mono HB5.out.size));clear hb8 hr8 hb58))
   have G7:=Lib.hid (show Sm w7 p7 n7 c7 (x.natAbs / y.natAbs+1) from ⟨HR7.out.1,HR7.out.2.1,HR7.out.2.2.1,HR7.out.2.2.2.1,HR7.out.2.2.2.2.1⟩)
   have G8:=Lib.hid (show Sm w8 p8 n8 c8 (y.natAbs - x.natAbs % y.natAbs) from ⟨HR8.out.1,HR8.out.2.1,HR8.out.2.2.1,HR8.out.2.2.2.1,HR8.out.2.2.2.2.1⟩)
   go_wp2_with (go_at_call 123;first | (with_reducible refine (chain2 HB8.out (text_z (E.below HB8.out) (G7.out.below HB78.out) E1.out HL1.out)).mono ?_;rintro e w9 ⟨rfl,hb89,hb9⟩) | (with_reducible refine (chain hb9 (text_z (E.below hb9) (G8.out.below hb89) E2.out HR1.out)).mono ?_;rintro e wz ⟨rfl,hbz⟩))
   go_ret3
   exact ⟨retSSI HQ.out HR.out rfl,hbz⟩
 · have hR9:b1=true→x.natAbs % y.natAbs=0:=fun h=>by
     have:n6=0:=by
       rcases Nat.eq_zero_or_pos n6 with h0 | h0
       · exact h0
       · exact absurd ⟨h,by omega⟩ hA
     rw [this] at hn6
     exact pcM_nil hn6.symm
   obtain ⟨e1,e2⟩:=dm_pos S1.out S2.out HYP.out hR9
   have E2:=Lib.hid e2
   cases b1
   · have e1':sgI b2 (x.natAbs / y.natAbs)=x / y:=by cases b2 <;> exact e1
     have E1:=Lib.hid e1'
     clear hA hR9 e1 e1' e2 hn6
     go_wp2_with (go_at_call 123;first | (with_reducible refine (chain2 HB5.out (text_z (E.below HB5.out) HS5.out E1.out HL0.out)).mono ?_;rintro e w7 ⟨rfl,hb57,hb7⟩) | (with_reducible refine (chain hb7 (text_z (E.below hb7) (HS6.out.below hb57) E2.out HR0.out)).mono ?_;rintro e w8 ⟨rfl,hb8⟩))
     go_ret3
     exact ⟨retSSI HQ.out HR.out rfl,hb8⟩
   · have e1':sgI (!b2) (x.natAbs / y.natAbs)=x / y:=by cases b2 <;> exact e1
     have E1:=Lib.hid e1'
     have hz6:n6=0:=by
       rcases Nat.eq_zero_or_pos n6 with h0 | h0
       · exact h0
       · exact absurd ⟨rfl,by omega⟩ hA
     have hgt:¬ (0:Int) < (n6:Int):=by omega
     have hgb:decide ((0:Int) < (n6:Int))=false:=decide_eq_false hgt
     clear hz6 hA hR9 e1 e1' e2 hn6
     go_wp2_with (go_at_call 123;first | (with_reducible refine (chain2 HB5.out (text_z (E.below HB5.out) HS5.out E1.out HL0.out)).mono ?_;rintro e w7 ⟨rfl,hb57,hb7⟩) | (with_reducible refine (chain hb7 (text_z (E.below hb7) (HS6.out.below hb57) E2.out HR0.out)).mono ?_;rintro e w8 ⟨rfl,hb8⟩))
     go_ret3
     exact ⟨retSSI HQ.out HR.out rfl,hb8⟩
theorem divMod_any (x y:Int) (w:World) (E:Env w) (hx:dlen x≤40000) (hy:dlen y≤40000) (hyz:y≠0) :
   Calls Tryz.prog 119 #[.string (itoaB x),.string (itoaB y)] w (Ret w (.tuple #[.string (itoaB (x / y)),.string (itoaB (x % y)),.int .i64 0])):=by
 by_cases hs:(itoaB x).size≤18∧(itoaB y).size≤18
 · have bx:=short_bound x hs.1
   have b2:=short_bound y hs.2
   exact divMod_short _ _ w hs.1 hs.2 x y (short_small x hs.1) (short_small y hs.2) E bx.1 bx.2 b2.1 b2.2 hyz
 · exact divMod_long x y w E (by omega) hx hy hyz
end Go.Proofs.YtpphjnekkjeacaaGreatDoor.Kl
namespace Go.Proofs.YtpphjnekkjeacaaGreatDoor.Kl
open Go
set_option maxRecDepth 100000
set_option maxHeartbeats 8000000
def IsRoot (r X:Nat):Prop:=r*r≤X∧X < (r+1)*(r+1)
theorem sq_lt {a b:Nat} (h:a*a < b*b):a < b:=by
 rcases Nat.lt_or_ge a b with h1 | h1
 · exact h1
 · have:=Nat.mul_le_mul h1 h1;omega
theorem IsRoot.unique {r s X:Nat} (h:IsRoot r X) (k:IsRoot s X):r=s:=by
 have h1:=sq_lt (Nat.lt_of_le_of_lt h.1 k.2)
 have h2:=sq_lt (Nat.lt_of_le_of_lt k.1 h.2)
 omega
theorem newton_above (g X:Nat) (hg:1≤g):X < ((g+X / g) / 2+1)*((g+X / g) / 2+1):=by
 have h1:X < g*(X / g+1):=by
   have:=Nat.lt_mul_div_succ X (show 0 < g by omega);exact this
 obtain ⟨q,hq⟩:∃ q,X / g=q:=⟨_,rfl⟩
 rw [hq] at h1 ⊢
 obtain ⟨n,hn⟩:∃ n,(g+q) / 2=n:=⟨_,rfl⟩
 rw [hn]
 have h2:g+(q+1)≤2*(n+1):=by omega
 have h3:=Nat.mul_le_mul h2 h2
 have h4:4*(g*(q+1))≤(g+(q+1))*(g+(q+1)):=by
   generalize q+1=p
   rcases Nat.le_total g p with h | h
   · obtain ⟨d,rfl⟩:∃ d,p=g+d:=⟨p - g,by omega⟩
     have e1:g*(g+d)=g*g+g*d:=Nat.mul_add _ _ _
     have e2:(g+(g+d))*(g+(g+d))=(2*g)*(2*g)+(2*g)*d+(d*(2*g)+d*d):=by rw [show g+(g+d)=2*g+d by omega,Nat.add_mul,Nat.mul_add,Nat.mul_add]
     have e3:(2*g)*(2*g)=4*(g*g):=by rw [Nat.mul_mul_mul_comm]
     have e4:(2*g)*d=2*(g*d):=Nat.mul_assoc _ _ _
     have e5:d*(2*g)=2*(g*d):=by rw [Nat.mul_comm d,Nat.mul_assoc]
     omega
   · obtain ⟨d,rfl⟩:∃ d,g=p+d:=⟨g - p,by omega⟩
     have e1:(p+d)*p=p*p+p*d:=by rw [Nat.add_mul,Nat.mul_comm d p]
     have e2:(p+d+p)*(p+d+p)=(2*p)*(2*p)+(2*p)*d+(d*(2*p)+d*d):=by rw [show p+d+p=2*p+d by omega,Nat.add_mul,Nat.mul_add,Nat.mul_add]
     have e3:(2*p)*(2*p)=4*(p*p):=by rw [Nat.mul_mul_mul_comm]
     have e4:(2*p)*d=2*(p*d):=Nat.mul_assoc _ _ _
     have e5:d*(2*p)=2*(p*d):=by rw [Nat.mul_comm d,Nat.mul_assoc]
     omega
 have h5:2*(n+1)*(2*(n+1))=4*((n+1)*(n+1)):=by
   rw [Nat.mul_mul_mul_comm]
 omega
theorem newton_end (g X:Nat) (ha:X < (g+1)*(g+1)) (h:g≤(g+X / g) / 2):IsRoot g X:=by
 refine ⟨?_,ha⟩
 have h1:g≤X / g:=by omega
 have:=Nat.mul_le_mul_left g h1
 exact Nat.le_trans this (Nat.mul_div_le X g)
theorem newton_pos (g X:Nat) (hg:1≤g) (hX:1≤X):1≤(g+X / g) / 2:=by
 by_cases h:g=1
 · subst h;rw [Nat.div_one];omega
 · have:=Nat.zero_le (X / g);omega
theorem root_zero : IsRoot 0 0:=⟨Nat.le_refl _,by decide⟩
theorem upper_above (r X P:Nat) (hP:1≤P) (h:IsRoot r (X / (P*P))):X < ((r+1)*P)*((r+1)*P):=by
 have hPP:0 < P*P:=Nat.mul_pos hP hP
 have h1:=Nat.lt_mul_div_succ X hPP
 have h2:P*P*(X / (P*P)+1)≤P*P*((r+1)*(r+1)):=Nat.mul_le_mul_left _ h.2
 have h3:((r+1)*P)*((r+1)*P)=P*P*((r+1)*(r+1)):=by rw [Nat.mul_mul_mul_comm,Nat.mul_comm]
 omega
theorem above_succ {g X:Nat} (h:X < g*g):X < (g+1)*(g+1):=by
 have:=Nat.mul_le_mul (Nat.le_succ g) (Nat.le_succ g)
 exact Nat.lt_of_lt_of_le h this
theorem pow_above (n L:Nat) (h:n < 2 ^ L):n < 2 ^ ((L+1) / 2)*2 ^ ((L+1) / 2):=by
 rw [← Nat.pow_add]
 exact Nat.lt_of_lt_of_le h (Nat.pow_le_pow_right (by decide) (by omega))
end Go.Proofs.YtpphjnekkjeacaaGreatDoor.Kl
namespace Go.Proofs.YtpphjnekkjeacaaGreatDoor.Kl
open Go Go.RowKit
set_option maxRecDepth 100000
set_option maxHeartbeats 8000000
def rootN : Nat→Nat
 | 0=>0
 | k+1=>if (rootN k+1)*(rootN k+1)≤k+1 then rootN k+1 else rootN k
theorem rootN_is : ∀ X,IsRoot (rootN X) X
 | 0=>root_zero
 | k + 1=>by
   have h:=rootN_is k
   unfold rootN
   split
   · refine ⟨by assumption,?_⟩
     have h2:=h.2
     have h3:(rootN k+1)*(rootN k+1) < (rootN k+1+1)*(rootN k+1+1):=Nat.mul_lt_mul'' (by omega) (by omega)
     omega
   · exact ⟨Nat.le_trans h.1 (Nat.le_succ _),by omega⟩
theorem rootN_eq {r X:Nat} (h:IsRoot r X):rootN X=r:=(rootN_is X).unique h
set_option maxRecDepth 512 in
theorem value_sm {p:Option Addr} {n c X:Nat} {w:World} (h:Sm w p n c X) (hl:(pcM X).length≤2) :
   Calls Tryz.prog 177 #[.slice p n c] w fun e w' => e = .returned (.int .i64 X)∧w=w':=by
 have a1:Calls Tryz.prog 209 #[.slice p n c,.int .i64 1] w fun e w' => e = .returned (.int .i64 ((pcM X)[1]?.getD 0))∧w=w':=at_any p n c (pcM X) 1 w h.len (by rw [h.len];omega) (by decide) h.has
 have a0:Calls Tryz.prog 209 #[.slice p n c,.int .i64 0] w fun e w' => e = .returned (.int .i64 ((pcM X)[0]?.getD 0))∧w=w':=at_any p n c (pcM X) 0 w h.len (by rw [h.len];omega) (by decide) h.has
 have e:=pval_psum 1000000000 (pcM X) 2 hl
 rw [(pcM_isP X).2] at e
 have e2:(X:Int)=(pcM X)[0]?.getD 0+1000000000*(pcM X)[1]?.getD 0:=by rw [e];simp [psum]
 have i1:=pcM_in X 1
 have i0:=pcM_in X 0
 obtain ⟨y1,h1⟩:∃ y,(pcM X)[1]?.getD 0=y:=⟨_,rfl⟩
 obtain ⟨y0,h0⟩:∃ y,(pcM X)[0]?.getD 0=y:=⟨_,rfl⟩
 rw [h1] at a1 i1 e2
 rw [h0] at a0 i0 e2
 have z1:IntKind.i64.wrap (y1*1000000000)=y1*1000000000:=IntWalk.i64_in _ (by omega)
 have z2:IntKind.i64.wrap (y1*1000000000+y0)=(X:Int):=by rw [e2,show y0+1000000000*y1=y1*1000000000+y0 by omega];exact IntWalk.i64_in _ (by omega)
 have A1:=Lib.hid a1
 have A0:=Lib.hid a0
 clear a1 a0 e e2 h1 h0 h
 go_enter Tryz.func177,Tryz.ntmps177
 go_wp2_with (go_at_call 209;first | (with_reducible refine A1.out.mono ?_;rintro e w1 ⟨rfl,rfl⟩) | (with_reducible refine A0.out.mono ?_;rintro e w1 ⟨rfl,rfl⟩))
 go_ret
 exact ⟨rfl,rfl⟩
theorem rootInt_any (n:Nat) (hn:n < 1000000000000000000) (w:World) :
   Calls Tryz.prog 222 #[.int .i64 n] w (Ret w (.int .i64 (rootN n))):=by
 by_cases h0:n=0
 · subst h0
   go_enter Tryz.func222,Tryz.ntmps222
   go_wp2
   go_ret
   exact ⟨rfl,Below.refl _ _⟩
 · have hne:((n:Int) == 0)=false:=by rw [beq_eq_false_iff_ne];omega
   have hn1:(n:Int) < 1000000000000000000:=by omega
   have c1:∀ w,Calls Tryz.prog 183 #[.int .u64 n] w fun e' w' => e' = .returned (.int .i64 (Lib.bitLen n))∧w'=w:=fun w=>by
     have:=Tryz.bits_Len n w (by omega) (by omega);rwa [show ((n:Nat):Int).toNat=n by omega] at this
   have hL:n < 2 ^ Lib.bitLen n:=bitLenAux_lt 64 n (by omega)
   have hL2:=bitLenAux_le 64 n
   change Lib.bitLen n≤64 at hL2
   obtain ⟨L,hLe⟩:∃ L,Lib.bitLen n=L:=⟨_,rfl⟩
   rw [hLe] at c1 hL hL2
   have hab:=pow_above n L hL
   obtain ⟨K,hK⟩:∃ K,(L+1) / 2=K:=⟨_,rfl⟩
   rw [hK] at hab
   have hK2:K≤32:=by omega
   have hpow:2 ^ K≤2 ^ 32:=Nat.pow_le_pow_right (by decide) hK2
   have hpow1:1≤2 ^ K:=Nat.one_le_two_pow
   have z1:IntKind.i64.wrap ((L:Int)+1)=((L+1:Nat):Int):=by rw [Int.natCast_add];exact IntWalk.i64_in _ (by omega)
   obtain ⟨S1,hS1⟩:∃ S1,L+1=S1:=⟨_,rfl⟩
   rw [hS1] at z1 hK
   have z3:(S1:Int).tdiv 2=(K:Int):=by rw [Int.tdiv_eq_ediv_of_nonneg (by omega)];omega
   obtain ⟨G,hG⟩:∃ G:Nat,2 ^ K=G:=⟨_,rfl⟩
   rw [hG] at hab hpow hpow1
   have hG2:G≤4294967296:=hpow
   have z4:wrap64 ((2:Int) ^ K)=(G:Int):=by
     have e:((2:Int) ^ K)=(G:Int):=by rw [← hG,Int.natCast_pow];rfl
     rw [e];exact IntWalk.wrap64_in _ ⟨by omega,by omega⟩
   have HAB:Hid (n < (G+1)*(G+1)):=Lib.hid (above_succ hab)
   have C1:=Lib.hid c1
   clear c1 hL hLe hK hS1 hab hG hpow
   go_enter Tryz.func222,Tryz.ntmps222
   go_wp2_with (go_at_call 183;refine (C1.out _).mono ?_;rintro e' w2 ⟨rfl,rfl⟩)
   go_loopw [3] (fun gv wr=>∃ g:Nat,gv = .int .i64 g∧1≤g∧g≤4294967296∧Hid (n < (g+1)*(g+1))∧Below w2.heap.size w2 wr) (fun gv _=>(intOf gv).toNat)
   case atStart=>exact ⟨G,by rw [z4],hpow1,hG2,HAB,Below.refl _ _⟩
   case round =>
     obtain ⟨g,rfl,hg1,hg2,HA,hb⟩:=hrel
     obtain ⟨q,hq⟩:∃ q,n / g=q:=⟨_,rfl⟩
     have hq1:q≤n:=by rw [← hq];exact Nat.div_le_self _ _
     have hgne:((g:Int) == 0)=false:=by rw [beq_eq_false_iff_ne];omega
     have y1:(n:Int).tdiv (g:Int)=(q:Int):=by rw [Int.tdiv_eq_ediv_of_nonneg (by omega),← Int.natCast_ediv,hq]
     obtain ⟨A1,hA1⟩:∃ A1:Nat,g+q=A1:=⟨_,rfl⟩
     have y2:IntKind.i64.wrap ((g:Int)+(q:Int))=(A1:Int):=by rw [← hA1,Int.natCast_add];exact IntWalk.i64_in _ (by omega)
     obtain ⟨M,hM⟩:∃ M,A1 / 2=M:=⟨_,rfl⟩
     have y3:(A1:Int).tdiv 2=(M:Int):=by rw [Int.tdiv_eq_ediv_of_nonneg (by omega)];omega
     have hMe:(g+n / g) / 2=M:=by rw [hq,hA1,hM]
     have hna:=newton_above g n hg1
     have hnp:=newton_pos g n hg1 (by omega)
     rw [hMe] at hna hnp
     have hA9:A1≤1000000010000000000:=by omega
     have hM9:M≤1000000010000000000:=by omega
     have HNA:=Lib.hid hna
     have HME:=Lib.hid hMe
     clear hna hMe hq hA1 hM
     by_cases hge:g≤M
     · have hr:rootN n=g:=rootN_eq (newton_end g n HA.out (by rw [HME.out];exact hge))
       have HR:=Lib.hid hr
       have hgi:(g:Int)≤(M:Int):=by omega
       clear hr
       go_wp2
       go_ret
       exact ⟨retI (by rw [HR.out]),hb⟩
     · have hgi:¬ (g:Int)≤(M:Int):=by omega
       go_wp2
       exact ⟨⟨M,rfl,hnp,by omega,HNA,hb⟩,by simp [intOf];omega⟩
theorem rootN_le (X:Nat):rootN X≤X:=by
 have h:=(rootN_is X).1
 rcases Nat.eq_zero_or_pos (rootN X) with h0 | h0
 · omega
 · exact Nat.le_trans (Nat.le_mul_of_pos_left _ h0) h
theorem pcM_drop (X k:Nat):(pcM X).drop k=pcM (X / 1000000000 ^ k):=by
 have h1:=drop_isP k (pcM_isP X).1
 rw [eq_pcM h1]
 congr 1
 induction k generalizing X with
 | zero=>rw [List.drop_zero,(pcM_isP X).2,Nat.pow_zero,Nat.div_one];exact Int.toNat_natCast _
 | succ k ih =>
   by_cases h0:X=0
   · subst h0;rw [pcM_zero,Nat.zero_div];rfl
   · rw [pcM,dif_neg h0,List.drop_succ_cons]
     have h2:=drop_isP k (pcM_isP (X / 1000000000)).1
     rw [ih (X / 1000000000) h2,Nat.pow_succ,Nat.mul_comm,Nat.div_div_eq_div_mul]
theorem pval_zeros9 (k:Nat) (ys:List Int):pval 1000000000 (List.replicate k 0 ++ ys)=1000000000 ^ k*pval 1000000000 ys:=by
 rw [pval_append,List.length_replicate]
 have:pval 1000000000 (List.replicate k (0:Int))=0:=by
   induction k with
   | zero=>rfl
   | succ k ih=>rw [List.replicate_succ];show (0:Int)+1000000000*_=0;rw [ih];rfl
 rw [this,Int.zero_add]
theorem pcM_shift (r k:Nat) (hr:r≠0):List.replicate k 0 ++ pcM r=pcM (r*1000000000 ^ k):=by
 obtain ⟨⟨h1,h2⟩,h3⟩:=pcM_isP r
 have hI:IsP 1000000000 (List.replicate k 0 ++ pcM r):=by
   refine ⟨fun x hx=>?_,?_⟩
   · rcases List.mem_append.1 hx with h | h
     · rw [List.eq_of_mem_replicate h];exact ⟨by decide,by decide⟩
     · exact h1 x h
   · have hne:pcM r≠[]:=fun e=>hr (pcM_nil (by rw [e];rfl))
     rcases snoc_cases (pcM r) with e | ⟨ys,y,e⟩
     · exact absurd e hne
     · rw [e] at h2 ⊢
       rw [← List.append_assoc,List.getLast?_concat]
       rw [List.getLast?_concat] at h2
       exact h2
 rw [eq_pcM hI,pval_zeros9,h3]
 congr 1
 have e:((1000000000 ^ k*r:Nat):Int)=(1000000000:Int) ^ k*(r:Int):=by rw [Int.natCast_mul,Int.natCast_pow];rfl
 rw [← e,Int.toNat_natCast,Nat.mul_comm]
theorem Sm.unique {w:World} {p:Option Addr} {n c X Y:Nat} (h:Sm w p n c X) (k:Sm w p n c Y):X=Y:=by
 have e:pcM X=pcM Y:=by
   rcases h.has with h1 | ⟨b,o,hp,_,hc⟩
   · have h2:=h.len
     have h3:=k.len
     rw [h1] at h2
     have:(pcM Y).length=0:=by rw [← h3,h2];rfl
     rw [h1,List.length_eq_zero_iff.1 this]
   · rcases k.has with k1 | ⟨b',o',hp',_,hc'⟩
     · have h2:=h.len
       have h3:=k.len
       rw [k1] at h3
       have:(pcM X).length=0:=by rw [← h2,h3];rfl
       rw [k1,List.length_eq_zero_iff.1 this]
     · rw [hp] at hp'
       injection hp' with hp'
       injection hp' with e1 e2
       subst e1 e2
       have hl:(pcM X).length=(pcM Y).length:=by rw [← h.len,← k.len]
       refine List.ext_getElem hl fun i h1 h2=>?_
       have a:=hc i h1
       rw [hc' i h2] at a
       injection a with a
       injection a with _ a
       rw [List.getElem?_eq_getElem h1,List.getElem?_eq_getElem h2] at a
       exact a.symm
 have h1:=(pcM_isP X).2
 rw [e,(pcM_isP Y).2] at h1
 omega
theorem sm_val {w:World} {p:Option Addr} {n c X:Nat} (h:Sm w p n c X):Classical.epsilon (fun g:Nat=>∃ p' n' c',Value.slice p n c=Value.slice p' n' c'∧Sm w p' n' c' g)=X:=by
 have:=Classical.epsilon_spec (p:=fun g:Nat=>∃ p' n' c',Value.slice p n c=Value.slice p' n' c'∧Sm w p' n' c' g) ⟨X,p,n,c,rfl,h⟩
 obtain ⟨p',n',c',e,h2⟩:=this
 injection e with e1 e2 e3
 subst e1 e2 e3
 exact h2.unique h
theorem root_short {p:Option Addr} {n c X:Nat} {w:World} (h:Sm w p n c X) (hl:(pcM X).length≤2) :
   Calls Tryz.prog 187 #[.slice p n c] w (RetP w (pcM (rootN X))):=by
 have hX:X < 1000000000000000000:=by
   have h1:=pcM_lt X
   have h2:1000000000 ^ (pcM X).length≤1000000000 ^ 2:=Nat.pow_le_pow_right (by decide) hl
   exact Nat.lt_of_lt_of_le h1 h2
 have hr9:rootN X < 1000000000:=sq_lt (Nat.lt_of_le_of_lt (rootN_is X).1 hX)
 have hn:(n:Int)≤2:=by have:=h.len;omega
 have C1:=Lib.hid (value_sm h hl)
 have C2:=Lib.hid (fun w=>rootInt_any X hX w)
 have HTS:=Lib.hid (trim_small (rootN X) hr9)
 obtain ⟨R,hR⟩:∃ R,rootN X=R:=⟨_,rfl⟩
 rw [hR] at C2 HTS ⊢
 clear h hX hR hr9 hl
 have hb:=Below.refl w.heap.size w
 go_enter Tryz.func187,Tryz.ntmps187
 go_wp2_with (first | (go_at_call 177;refine C1.out.mono ?_;rintro e w1 ⟨rfl,rfl⟩) | (go_at_call 222;refine (chain hb (C2.out _)).mono ?_;clear hb;rintro e w2 ⟨rfl,hb⟩;refine Hid.out ?_))
 refine Lib.hid ?_
 have hh:Has (w2.alloc (.cells #[.int .i64 R] 3)) (some ⟨w2.heap.size,0,none⟩) [(R:Int)]:=by
   refine Or.inr ⟨w2.heap.size,0,rfl,by simp,fun i hi=>?_⟩
   obtain rfl:i=0:=by simpa using hi
   rw [World.cell?_alloc_new];rfl
 have ht:=trim_any (some ⟨w2.heap.size,0,none⟩) 1 1 [(R:Int)] _ rfl (Nat.le_refl _) (by omega) (fun h=>by cases h) hh
 rw [HTS.out] at ht
 have HT:=Lib.hid ht
 have HBA:=Lib.hid (hb.alloc hb.size (.cells #[.int .i64 R] 3))
 clear hh ht hb
 go_wp2_with (go_at_call 178;refine HT.out.mono ?_;rintro e w3 ⟨p3,n3,c3,rfl,hr3⟩;have HR3:=Lib.hid hr3;clear hr3)
 go_ret
 exact RetP.behind HBA.out (⟨p3,n3,c3,rfl,HR3.out⟩:RetP _ _ (.returned (.slice p3 n3 c3)) w3)
theorem root_long {p:Option Addr} {n c X:Nat} {w:World} (h:Sm w p n c X) (hl:3≤(pcM X).length) (hl9:(pcM X).length≤40000)
   (ih:∀ (p':Option Addr) (n' c' X':Nat) (w':World),Sm w' p' n' c' X'→(pcM X').length < (pcM X).length→Calls Tryz.prog 187 #[.slice p' n' c'] w' (RetP w' (pcM (rootN X')))) :
   Calls Tryz.prog 187 #[.slice p n c] w (RetP w (pcM (rootN X))):=by
 obtain ⟨i0,hi,hi0,hi1,hi2⟩:=info_parts info3
 have hn:=h.len
 have hcap:=h.cap
 have htop:=h.top
 have hn3:3≤n:=by omega
 have hn9:n≤40000:=by omega
 have hnn:¬ (n:Int)≤2:=by omega
 obtain ⟨b,o,rfl,hb0,hc⟩:∃ b o,p=some ⟨b,o,none⟩∧b < w.heap.size∧∀ i,i < (pcM X).length→w.cell? ⟨b,o+i,none⟩=some (.int .i64 ((pcM X)[i]?.getD 0)):=by
   rcases h.has with h1 | h1
   · rw [h1] at hl;simp at hl
   · exact h1
 obtain ⟨lo,hlo⟩:∃ lo:Nat,max 1 (n / 4)=lo:=⟨_,rfl⟩
 have hlo1:1≤lo:=by omega
 have hlo2:2*lo < n:=by omega
 have z1:(n:Int).tdiv 4=((n / 4:Nat):Int):=by rw [Int.tdiv_eq_ediv_of_nonneg (by omega)];omega
 have z2:max (1:Int) ((n / 4:Nat):Int)=(lo:Int):=by omega
 obtain ⟨n4,hn4⟩:∃ n4,n / 4=n4:=⟨_,rfl⟩
 have hn49:n4≤10000:=by omega
 rw [hn4] at z1 z2
 obtain ⟨l2,hl2⟩:∃ l2,2*lo=l2:=⟨_,rfl⟩
 have z3:IntKind.i64.wrap (2*(lo:Int))=(l2:Int):=by rw [← hl2,Int.natCast_mul];exact IntWalk.i64_in _ (by omega)
 obtain ⟨P,hP⟩:∃ P,1000000000 ^ lo=P:=⟨_,rfl⟩
 have hP1:1≤P:=by rw [← hP];exact Nat.one_le_pow _ _ (by decide)
 have hPP:1000000000 ^ l2=P*P:=by rw [← hl2,← hP,← Nat.pow_add];congr 1;omega
 have hdrop:=pcM_drop X l2
 rw [hPP] at hdrop
 obtain ⟨X2,hX2⟩:∃ X2,X / (P*P)=X2:=⟨_,rfl⟩
 rw [hX2] at hdrop
 have hlen2:(pcM X2).length=n - l2:=by rw [← hdrop,List.length_drop,hn]
 have hs2:Sm w (some ⟨b,o+l2,none⟩) (n - l2) (c - l2) X2:=by
   refine ⟨hlen2.symm,by omega,by omega,(fun h=>by cases h),?_⟩
   refine Or.inr ⟨b,o+l2,rfl,hb0,fun i hi=>?_⟩
   have h1:=hc (l2+i) (by omega)
   rw [← Nat.add_assoc] at h1
   rw [h1,← hdrop,List.getElem?_drop]
 have cih:=ih _ _ _ X2 w hs2 (by omega)
 obtain ⟨r,hr⟩:∃ r,rootN X2=r:=⟨_,rfl⟩
 rw [hr] at cih
 have hir:IsRoot r X2:=by rw [← hr];exact rootN_is X2
 have hab:=upper_above r X P hP1 (by rw [hX2];exact hir)
 have hrl:(pcM r).length≤n:=by
   have h1:=pcM_len_mono (show r≤X2 by rw [← hr];exact rootN_le X2)
   omega
 have hr1l:(pcM (r+1)).length≤n+1:=by
   have h3:(pcM (r+1)).length≤(pcM r).length+1:=pcM_len _ _ (by have:=pcM_lt r;rw [Nat.pow_succ];omega)
   omega
 have hsh:=pcM_shift (r+1) lo (by omega)
 rw [hP] at hsh
 obtain ⟨G,hG⟩:∃ G,(r+1)*P=G:=⟨_,rfl⟩
 rw [hG] at hsh hab
 have hG1:1≤G:=by rw [← hG];exact Nat.mul_pos (by omega) hP1
 have hGl:(pcM G).length≤2*n+1:=by rw [← hsh,List.length_append,List.length_replicate];omega
 have hmk:∀ w,(Instr.makeSlice 165 (.int .i64 (lo:Int)) (.int .i64 (lo:Int))).run Tryz.prog w = .ok (.slice (some ⟨w.heap.size,0,none⟩) lo lo) (w.alloc (.cells (madeCells #[Value.int .i64 0] lo) 3)):=fun w =>
   make_ints _ Tryz.underlying165 lo lo (Nat.le_refl _) (by omega) w
 have hsub:(l2:Int)≤(n:Int):=by omega
 have hsubc:(l2:Int)≤(c:Int):=by omega
 have hl2c:l2 < c:=by omega
 have hl2d:c - l2≠0:=by omega
 have hl2e:¬ (l2:Int)=(c:Int):=by omega
 have hl2f:¬ l2=c:=by omega
 have H:=Lib.hid h
 have CIH:=Lib.hid cih
 have HSH:=Lib.hid hsh
 have HAB:=Lib.hid (above_succ hab)
 have HRL:Hid ((pcM r).length≤100000):=Lib.hid (by omega)
 have HRL1:Hid ((pcM (r+1)).length≤50000):=Lib.hid (by omega)
 have HGL:Hid ((pcM G).length≤80001):=Lib.hid (by omega)
 have HXL:Hid ((pcM X).length≤40000):=Lib.hid hl9
 clear h hn hl hl9 ih hc hlo hP hPP hdrop hX2 hlen2 hs2 cih hr hir hab hrl hr1l hsh hG hGl hl2 hn4
 have hb:=Below.refl w.heap.size w
 go_enter Tryz.func187,Tryz.ntmps187
 obtain ⟨mv,hmv⟩:∃ mv:Value→World→Nat,∀ w p n c X,Sm w p n c X→mv (.slice p n c) w=X:=
   ⟨fun v w=>Classical.epsilon (fun g:Nat=>∃ p' n' c',v=Value.slice p' n' c'∧Sm w p' n' c' g),fun _ _ _ _ _ h=>sm_val h⟩
 have HMV:=Lib.hid hmv
 clear hmv
 go_upto_region 5 with (first | (go_at_call 187;refine (chainM hb CIH.out).mono ?_;clear hb;rintro e w1 ⟨p1,n1,c1,rfl,hs1,hl1,hb⟩;have HS1:=Lib.hid hs1;clear hs1 hl1) | (go_at_call 162;refine (chainM (hb.alloc hb.size _) (plus_sm (HS1.out.below ((Below.refl _ _).alloc (Nat.le_refl _) _)) (sm_one w1) HRL.out (by rw [pcM_small 1 (by decide) (by decide)];decide))).mono ?_;clear hb;rintro e w2 ⟨p2,n2,c2,rfl,hs2,hl2,hb⟩;have HS2:=Lib.hid hs2;clear hs2 hl2))
 obtain ⟨b2,o2,rfl,hlt2,hc2⟩:∃ b2 o2,p2=some ⟨b2,o2,none⟩∧b2 < w2.heap.size∧∀ i,i < (pcM (r+1)).length→w2.cell? ⟨b2,o2+i,none⟩=some (.int .i64 ((pcM (r+1))[i]?.getD 0)):=by
   rcases HS2.out.has with h1 | h1
   · have:=pcM_nil (show (pcM (r+1)).length=0 by rw [h1];rfl);omega
   · exact h1
 have hn2:=HS2.out.len
 have hn29:n2≤50000:=by rw [hn2];exact HRL1.out
 have hmk2:=hmk w2
 have hown0:=own_zeros w2 lo (by omega)
 have HOWN0:=Lib.hid hown0
 have HN2:=Lib.hid hn2
 have HC2:=Lib.hid hc2
 have HB2:=Lib.hid hb
 clear hown0 hn2 hc2 hmk
 go_wp2_with (at_builtin;refine wpList_append_own _ rfl _ _ 165 rfl w2.heap.size 3 i0 (.int .i64 0) 1 8 Tryz.underlying165 hi hi0 hi1 hi2 rfl (by decide) _ _ _ rfl HOWN0.out ⟨b2,o2,none⟩ n2 c2 (iv (pcM (r+1))) rfl ?hl ?hnews ?h1 ?c3 ?c4 ?c5 ?_)
 case hl=>rw [iv,List.length_map,← HN2.out];omega
 case hnews =>
   intro j u hu
   rw [iv,List.getElem?_map] at hu
   by_cases hj:j < (pcM (r+1)).length
   · rw [List.getElem?_eq_getElem hj] at hu
     have hc:=HC2.out j hj
     rw [List.getElem?_eq_getElem hj] at hc
     rw [World.cell?_alloc_lt _ _ _ (by rw [Go.WideShapes.add_plain];exact hlt2),Go.WideShapes.add_plain,hc]
     exact hu
   · rw [List.getElem?_eq_none (by omega)] at hu;cases hu
 case h1=>intro u hu;simp [iv] at hu;obtain ⟨x,_,rfl⟩:=hu;simp [Value.oneCell']
 case c3=>unfold maxLen;omega
 case c4=>omega
 case c5=>simp only [World.size_alloc];omega
 intro v' w3 hown3 hgrow hnil
 have he3:iv (List.replicate lo 0) ++ iv (pcM (r+1))=iv (pcM G):=by rw [← HSH.out];unfold iv;rw [List.map_append]
 rw [he3] at hown3
 have hl3:(pcM G).length=lo+n2:=by rw [← HSH.out,List.length_append,List.length_replicate,HN2.out]
 have hb3:=(hb.alloc hb.size _).grown hgrow (by simp only [World.size_alloc];have:=hb.size;omega) (fun k hk=>Nat.le_trans hb.size (own_ge3 HOWN0.out k hk))
 obtain ⟨p3,c3,rfl,hnc3,hc3,hpn3,hh3⟩:=has_of_row hown3 hl3
 have HS3:=Lib.hid (show Sm w3 p3 (lo+n2) c3 G from ⟨hl3.symm,hnc3,hc3,hpn3,hh3⟩)
 have HB3:=Lib.hid hb3
 clear hown3 hgrow hnil he3 hl3 hb3 hh3 hb hnc3 hc3 hpn3
 go_wp2
 go_loopw [5] (fun gv wr=>∃ (g:Nat) (p':Option Addr) (n' c':Nat),gv = .slice p' n' c'∧Hid (Sm wr p' n' c' g)∧1≤g∧Hid (X < (g+1)*(g+1))∧Hid ((pcM g).length≤80001)∧Below w.heap.size w wr) (fun gv wr=>mv gv wr)
 case atStart=>exact ⟨G,p3,_,c3,rfl,HS3,hG1,HAB,HGL,HB3.out⟩
 case round =>
   obtain ⟨g,p',n',c',rfl,HG,hg1,HA,HGl,hb⟩:=hrel
   have hxg:=Nat.div_le_self X g
   have hlq:=pcM_len_mono hxg
   have hls:(pcM (g+X / g)).length≤80002:=by
     refine Nat.le_trans (pcM_len _ (max (pcM g).length (pcM (X / g)).length+1) ?_) ?_
     · have a:=Nat.lt_of_lt_of_le (pcM_lt g) (Nat.pow_le_pow_right (by decide:0 < 1000000000) (Nat.le_max_left (pcM g).length (pcM (X / g)).length))
       have b:=Nat.lt_of_lt_of_le (pcM_lt (X / g)) (Nat.pow_le_pow_right (by decide:0 < 1000000000) (Nat.le_max_right (pcM g).length (pcM (X / g)).length))
       rw [Nat.pow_succ];omega
     · have h1:=HGl.out
       have h2:=HXL.out
       exact Nat.succ_le_succ (Nat.max_le.2 ⟨h1,by omega⟩)
   have hln:=pcM_len_mono (Nat.div_le_self (g+X / g) 2)
   have hna:=newton_above g X hg1
   have LQ:Hid ((pcM (X / g)).length≤100000):=Lib.hid (by have:=HXL.out;omega)
   have LG:Hid ((pcM g).length≤100000):=Lib.hid (by have:=HGl.out;omega)
   have LG9:Hid ((pcM g).length≤90000):=Lib.hid (by have:=HGl.out;omega)
   have LX9:Hid ((pcM X).length≤90000):=Lib.hid (by have:=HXL.out;omega)
   have LS:Hid ((pcM (g+X / g)).length≤100000):=Lib.hid (by omega)
   have LN:Hid ((pcM ((g+X / g) / 2)).length≤100000):=Lib.hid (by omega)
   have hg0:g≠0:=by omega
   have HNE:Hid ((g+X / g) / 2=0→False):=Lib.hid (fun e=>by
     have:=newton_pos g X hg1 (by
       rcases Nat.eq_zero_or_pos X with h0 | h0
       · exfalso
         have:=H.out.len
         rw [h0,pcM_zero] at this
         rw [this] at hn3
         exact absurd hn3 (by decide)
       · exact h0)
     omega)
   have hv:=HMV.out _ _ _ _ _ HG.out
   have HV:=Lib.hid hv
   obtain ⟨Q,hQ⟩:∃ Q,X / g=Q:=⟨_,rfl⟩
   have HQE:=Lib.hid hQ
   rw [hQ] at hna LQ LS LN HNE
   obtain ⟨M,hM⟩:∃ M,(g+Q) / 2=M:=⟨_,rfl⟩
   have HME:=Lib.hid hM
   rw [hM] at hna LN HNE
   obtain ⟨z,hz⟩:∃ z,Lib.compareInt M g=z:=⟨_,rfl⟩
   have cdv:∀ w,Sm w (some ⟨b,o,none⟩) n c X→Sm w p' n' c' g→Calls Tryz.prog 161 #[.slice (some ⟨b,o,none⟩) n c,.slice p' n' c'] w (RetQ w Q (X % g)):=fun w h1 h2=>by
     have:=divide_sm h1 h2 LX9.out LG9.out hg0
     rwa [hQ] at this
   have cds:∀ w p5 n5 c5,Sm w p5 n5 c5 (g+Q)→Calls Tryz.prog 194 #[.slice p5 n5 c5,.int .i64 2] w fun e w' => ∃ p2 n2 c2,e = .returned (.tuple #[.slice p2 n2 c2,.int .i64 (((g+Q) % 2:Nat):Int)])∧Sm w' p2 n2 c2 M∧Below w.heap.size w w':=fun w p5 n5 c5 h=>by
     have:=divS_sm h LS.out 2 (by decide) (by decide)
     rwa [hM] at this
   have cpm:∀ w p5 n5 c5,Sm w p5 n5 c5 M→Sm w p' n' c' g→Calls Tryz.prog 165 #[.slice p5 n5 c5,.slice p' n' c'] w (Ret w (.int .i64 z)):=fun w p5 n5 c5 h1 h2=>by
     have:=pcmp_sm h1 h2 LN.out LG.out
     rwa [hz] at this
   have CDV:=Lib.hid cdv
   have CDS:=Lib.hid cds
   have CPM:=Lib.hid cpm
   have HNA:=Lib.hid hna
   have HZ:=Lib.hid hz
   clear hxg hlq hls hln hna hv hQ hM hz cdv cds cpm hg0
   by_cases hge:g≤M
   · have hz0:0≤z:=by
       rw [← HZ.out]
       rcases Nat.lt_or_eq_of_le hge with h | h
       · rw [cI_gt (by omega)];decide
       · rw [cI_eq (by omega)];decide
     have hr:rootN X=g:=rootN_eq (newton_end g X HA.out (by rw [HQE.out,HME.out];exact hge))
     have HR:=Lib.hid hr
     clear hr
     go_wp2_with (first | (go_at_call 161;refine (chainQ hb (CDV.out _ (H.out.below hb) HG.out)).mono ?_;clear hb;rintro e w5 ⟨p5,n5,c5,p6,n6,c6,rfl,hs5,hs6,hl5,hb⟩;have HS5:=Lib.hid hs5;have HG5:=Lib.hid (HG.out.below hl5);clear hs5 hs6 hl5) | (go_at_call 162;refine (chainM hb (plus_sm HG5.out HS5.out LG.out LQ.out)).mono ?_;clear hb;rintro e w7 ⟨p7,n7,c7,rfl,hs7,hl7,hb⟩;have HS7:=Lib.hid hs7;have HG7:=Lib.hid (HG5.out.below hl7);clear hs7 hl7) | (go_at_call 194;refine (CDS.out _ _ _ _ HS7.out).mono ?_;rintro e w8 ⟨p8,n8,c8,rfl,hs8,hl8⟩;have HS8:=Lib.hid hs8;have HG8:=Lib.hid (HG7.out.below hl8);have hb8:=hb.trans (hl8.mono hb.size);clear hs8 hl8 hb) | (go_at_call 165;refine (CPM.out _ _ _ _ HS8.out HG8.out).mono ?_;rintro e w9 ⟨rfl,hl9⟩;have HG9:=Lib.hid (HG8.out.below hl9);have hb9:=hb8.trans (hl9.mono hb8.size);clear hl9))
     go_ret
     have h9:=HG9.out
     exact ⟨p',n',c',rfl,by rw [HR.out];exact h9.len,h9.cap,h9.top,h9.nil,by rw [HR.out];exact h9.has,hb9⟩
   · have hz0:¬ 0≤z:=by
       rw [← HZ.out,cI_lt (by omega)];decide
     have hM1:1≤M:=by
       rcases Nat.eq_zero_or_pos M with h0 | h0
       · exact absurd (HNE.out h0) (fun h=>h)
       · exact h0
     have hMl:(pcM M).length≤80001:=by have h1:=pcM_len_mono (show M≤g by omega);have:=HGl.out;omega
     have HMl:=Lib.hid hMl
     have HNA2:Hid (X < (M+1)*(M+1)):=Lib.hid HNA.out
     clear hMl
     go_wp2_with (first | (go_at_call 161;refine (chainQ hb (CDV.out _ (H.out.below hb) HG.out)).mono ?_;clear hb;rintro e w5 ⟨p5,n5,c5,p6,n6,c6,rfl,hs5,hs6,hl5,hb⟩;have HS5:=Lib.hid hs5;have HG5:=Lib.hid (HG.out.below hl5);clear hs5 hs6 hl5) | (go_at_call 162;refine (chainM hb (plus_sm HG5.out HS5.out LG.out LQ.out)).mono ?_;clear hb;rintro e w7 ⟨p7,n7,c7,rfl,hs7,hl7,hb⟩;have HS7:=Lib.hid hs7;have HG7:=Lib.hid (HG5.out.below hl7);clear hs7 hl7) | (go_at_call 194;refine (CDS.out _ _ _ _ HS7.out).mono ?_;rintro e w8 ⟨p8,n8,c8,rfl,hs8,hl8⟩;have HS8:=Lib.hid hs8;have HG8:=Lib.hid (HG7.out.below hl8);have hb8:=hb.trans (hl8.mono hb.size);clear hs8 hl8 hb) | (go_at_call 165;refine (CPM.out _ _ _ _ HS8.out HG8.out).mono ?_;rintro e w9 ⟨rfl,hl9⟩;have HS9:=Lib.hid (HS8.out.below hl9);have hb9:=hb8.trans (hl9.mono hb8.size);clear hl9))
     have hvn:=HMV.out _ _ _ _ _ HS9.out
     exact ⟨⟨M,p8,n8,c8,rfl,HS9,hM1,HNA2,HMl,hb9⟩,by rw [hvn,HV.out];omega⟩
theorem root_sm : ∀ (N:Nat) (p:Option Addr) (n c X:Nat) (w:World),Sm w p n c X→(pcM X).length≤N→N≤40000→Calls Tryz.prog 187 #[.slice p n c] w (RetP w (pcM (rootN X)))
 | 0,_,_,_,_,_,h,hl,_=>root_short h (by omega)
 | N+1,_,_,_,X,_,h,hl,hN=>by
   by_cases hs:(pcM X).length≤2
   · exact root_short h hs
   · exact root_long h (by omega) (by omega) fun p' n' c' X' w' h' hl' => root_sm N p' n' c' X' w' h' (by omega) (by omega)
theorem retSI2 {k:IntKind} {a b:ByteArray} {x y:Int} (h:a=b) (g:x=y):Ending.returned (.tuple #[.string a,.int k x]) = .returned (.tuple #[.string b,.int k y]):=by rw [h,g]
theorem root_neg (x:Int) (w:World) (h:x < 0) :
   Calls Tryz.prog 157 #[.string (itoaB x)] w (Ret w (.tuple #[.string ⟨#[]⟩,.int .i64 3])):=by
 have s1:=fun w=>sign_any x w
 have hs:x.sign = -1:=Int.sign_eq_neg_one_of_neg h
 simp only [hs] at s1
 obtain ⟨a,ha⟩:∃ a,itoaB x=a:=⟨_,rfl⟩
 rw [ha] at s1 ⊢
 have S1:=Lib.hid s1
 clear s1 hs ha h
 have hb:=Below.refl w.heap.size w
 go_enter Tryz.func157,Tryz.ntmps157
 go_wp2_with (go_at_call 92;refine (chain hb (S1.out _)).mono ?_;clear hb;rintro e w1 ⟨rfl,hb⟩)
 go_ret2
 exact ⟨retSI2 rfl rfl,hb⟩
theorem root_any (x:Nat) (w:World) (E:Env w) (hx:dlen x≤40000) :
   Calls Tryz.prog 157 #[.string (itoaB x)] w (Ret w (.tuple #[.string (itoaB (rootN x)),.int .i64 0])):=by
 have s1:=fun w=>sign_any (x:Int) w
 have hs:¬ (x:Int).sign < 0:=by
   rcases Nat.eq_zero_or_pos x with h | h
   · subst h;decide
   · rw [Int.sign_eq_one_of_pos (by omega)];decide
 obtain ⟨sg,hsg⟩:∃ sg,(x:Int).sign=sg:=⟨_,rfl⟩
 rw [hsg] at hs
 simp only [hsg] at s1
 have r1:∀ w,Calls Tryz.prog 121 #[.string (itoaB x)] w (RetN w x):=fun w=>read_itoa x w (by omega)
 have hfld:∀ (b:Bool) (p:Option Addr) (n c:Nat) (w:World),(Instr.field 167 (.agg #[.bool b,.slice p n c]) 1).run Tryz.prog w = .ok (.slice p n c) w:=fun b p n c w=>by kernel_rfl
 have hxl:(pcM x).length≤40000:=by unfold dlen at hx;exact pcM_len_dec x 40000 hx
 have hrl:(pcM (rootN x)).length≤100000:=by have:=pcM_len_mono (rootN_le x);omega
 have HXL:=Lib.hid hxl
 have HRL:=Lib.hid hrl
 obtain ⟨a,ha⟩:∃ a,itoaB (x:Int)=a:=⟨_,rfl⟩
 obtain ⟨r,hr⟩:∃ r,itoaB ((rootN x:Nat):Int)=r:=⟨_,rfl⟩
 have HR:=Lib.hid hr
 rw [ha] at s1 r1
 rw [ha,hr]
 have S1:=Lib.hid s1
 have R1:=Lib.hid r1
 clear s1 r1 hsg ha hr hx hxl hrl
 have hb:=Below.refl w.heap.size w
 go_enter Tryz.func157,Tryz.ntmps157
 go_wp2_with (first | (go_at_call 92;refine (chain hb (S1.out _)).mono ?_;clear hb;rintro e w1 ⟨rfl,hb⟩) | (go_at_call 121;refine (chainN hb (R1.out _)).mono ?_;clear hb;rintro e w1 ⟨b1,p1,n1,c1,rfl,hs1,hb⟩) | (go_at_call 187;refine (chainM hb (root_sm 40000 _ _ _ x _ hs1.out.1 HXL.out (Nat.le_refl _))).mono ?_;clear hb;rintro e w2 ⟨p2,n2,c2,rfl,hs2,hl2,hb⟩;have HS2:=Lib.hid hs2;clear hs2 hl2) | (go_at_call 123;refine (chain hb (text_z (E.below hb) HS2.out (sgI_f _) HRL.out)).mono ?_;clear hb;rintro e w3 ⟨rfl,hb⟩))
 go_ret2
 exact ⟨retSI2 HR.out rfl,hb⟩
theorem dlen_nat_le (N:Nat) (z:Int) (K:Nat) (hK:0 < K) (h:N≤z.natAbs) (hz:dlen z≤K):dlen (N:Int)≤K:=by
 unfold dlen at *
 exact dec_len_le _ _ (Nat.lt_of_le_of_lt h (Nat.lt_of_lt_of_le (dig_lt z.natAbs) (Nat.pow_le_pow_right (by decide) hz))) hK
end Go.Proofs.YtpphjnekkjeacaaGreatDoor.Kl
namespace Go.Proofs.YtpphjnekkjeacaaGreatDoor.Kl
open Go
set_option maxRecDepth 100000
set_option maxHeartbeats 8000000
structure LeadAt (X Y H u0 v0:Int) (s A B C D u v X' Y':Int):Prop where
 sg:s=1∨s = -1
 a0:0≤A
 b0:0≤B
 c0:0≤C
 d0:0≤D
 xe:X'=s*(A*X - B*Y)
 ye:Y'=s*(D*Y - C*X)
 ue:u=s*(A*u0 - B*v0)
 ve:v=s*(D*v0 - C*u0)
 xb:X=D*X'+B*Y'
 yb:Y=C*X'+A*Y'
 ub:u0=D*u+B*v
 vb:v0=C*u+A*v
 y0:0≤Y'
 yx:Y'≤X'
 uv:v≤u
 v1:s=1→C≤v∧B≤u
 v2:s = -1→D≤v∧A≤u
theorem LeadAt.start {X Y H u0 v0:Int} (hXY:Y≤X) (hY:0≤Y) (huv:v0≤u0) (hv:0≤v0):LeadAt X Y H u0 v0 1 1 0 0 1 u0 v0 X Y:=
 ⟨.inl rfl,by decide,by decide,by decide,by decide,by omega,by omega,by omega,by omega,by omega,by omega,by omega,by omega,hY,hXY,huv,fun _=>⟨hv,by omega⟩,fun h=>by omega⟩
theorem LeadAt.step {X Y H u0 v0 s A B C D u v X' Y' q:Int} (h:LeadAt X Y H u0 v0 s A B C D u v X' Y') (hH:0 < H)
   (hx0:u0*H≤X) (hx1:X≤(u0+1)*H) (hy0:v0*H≤Y) (hy1:Y≤(v0+1)*H) (hq:0≤q)
   (h1:q*(v - s*C)≤u+s*A) (h2:u+s*A < (q+1)*(v - s*C)) (h3:q*(v+s*D)≤u - s*B) (h4:u - s*B < (q+1)*(v+s*D)) :
   LeadAt X Y H u0 v0 (-s) C D (A+q*C) (B+q*D) v (u - q*v) Y' (X' - q*Y')∧X' - q*Y' < Y'∧B+q*D < v∧A+q*C < v∧u - q*v < v:=by
 obtain ⟨sg,a0,b0,c0,d0,xe,ye,ue,ve,xb,yb,ub,vb,y0,yx,uv,v1,v2⟩:=h
 have qC:0≤q*C:=Int.mul_nonneg hq c0
 have qD:0≤q*D:=Int.mul_nonneg hq d0
 have exq:∀ m n k l:Int,m*n - q*(k*n)=(m - q*k)*n:=fun m n k l=>by rw [Int.sub_mul,Int.mul_assoc]
 obtain ⟨x0,hx⟩:∃ x0,X=u0*H+x0:=⟨X - u0*H,by omega⟩
 obtain ⟨z0,hy⟩:∃ z0,Y=v0*H+z0:=⟨Y - v0*H,by omega⟩
 have x0a:0≤x0:=by omega
 have x0b:x0≤H:=by rw [Int.add_mul] at hx1;omega
 have z0a:0≤z0:=by omega
 have z0b:z0≤H:=by rw [Int.add_mul] at hy1;omega
 have mulb:∀ {k z:Int},0≤k→0≤z→z≤H→0≤k*z∧k*z≤k*H:=fun hk h0 h1=>⟨Int.mul_nonneg hk h0,Int.mul_le_mul_of_nonneg_left h1 hk⟩
 have bA:=mulb a0 x0a x0b
 have bB:=mulb b0 z0a z0b
 have bC:=mulb c0 x0a x0b
 have bD:=mulb d0 z0a z0b
 -- the numbers behind the leading ones
 have eX:X'=u*H+s*(A*x0 - B*z0):=by
   rw [xe,ue,hx,hy,Int.mul_assoc,← Int.mul_add]
   congr 1
   rw [Int.mul_add,Int.mul_add,Int.sub_mul,Int.mul_assoc,Int.mul_assoc];omega
 have eY:Y'=v*H+s*(D*z0 - C*x0):=by
   rw [ye,ve,hx,hy,Int.mul_assoc,← Int.mul_add]
   congr 1
   rw [Int.mul_add,Int.mul_add,Int.sub_mul,Int.mul_assoc,Int.mul_assoc];omega
 have kq:∀ {a b:Int},a≤b→a*H≤b*H:=fun h=>Int.mul_le_mul_of_nonneg_right h (Int.le_of_lt hH)
 have kq':∀ {a b:Int},a < b→a*H < b*H:=fun h=>Int.mul_lt_mul_of_pos_right h hH
 have qle:∀ {a b:Int},a≤b→q*a≤q*b:=fun h=>Int.mul_le_mul_of_nonneg_left h hq
 have qle':∀ {a b:Int},a≤b→(q+1)*a≤(q+1)*b:=fun h=>Int.mul_le_mul_of_nonneg_left h (by omega)
 have main:0≤X' - q*Y'∧X' - q*Y' < Y':=by
   rcases sg with rfl | rfl
   · simp only [Int.one_mul] at h1 h2 h3 h4 eX eY
     have lX:(u - B)*H≤X':=by rw [Int.sub_mul];omega
     have gX:X'≤(u+A)*H:=by rw [Int.add_mul];omega
     have gY:Y'≤(v+D)*H:=by rw [Int.add_mul];omega
     have lY:(v - C)*H≤Y':=by rw [Int.sub_mul];omega
     have k1:=kq h3
     have k2:=kq' h2
     have k3:=qle gY
     have k4:=qle' lY
     rw [Int.mul_assoc] at k1 k2
     rw [Int.add_mul q 1 Y',Int.one_mul] at k4
     omega
   · simp only [Int.neg_mul,Int.one_mul,Int.sub_neg] at h1 h2 h3 h4 eX eY
     have lX:(u - A)*H≤X':=by rw [Int.sub_mul];omega
     have gX:X'≤(u+B)*H:=by rw [Int.add_mul];omega
     have gY:Y'≤(v+C)*H:=by rw [Int.add_mul];omega
     have lY:(v - D)*H≤Y':=by rw [Int.sub_mul];omega
     have k1:=kq h1
     have k2:=kq' h4
     rw [show u + -A=u - A by omega] at k1
     rw [show v + -D=v - D by omega] at k2
     have k3:=qle gY
     have k4:=qle' lY
     rw [Int.mul_assoc] at k1 k2
     rw [Int.add_mul q 1 Y',Int.one_mul] at k4
     omega
 have sC:q*(s*C)=s*(q*C):=Int.mul_left_comm _ _ _
 have sD:q*(s*D)=s*(q*D):=Int.mul_left_comm _ _ _
 have hqs:∀ z:Int,(q+1)*z=q*z+z:=fun z=>by rw [Int.add_mul,Int.one_mul]
 rw [Int.mul_sub,sC] at h1
 rw [hqs,Int.mul_sub,sC] at h2
 rw [Int.mul_add,sD] at h3
 rw [hqs,Int.mul_add,sD] at h4
 have hX':0≤X':=by omega
 refine ⟨⟨by rcases sg with rfl | rfl <;> decide,c0,d0,by omega,by omega,?_,?_,?_,?_,?_,?_,?_,?_,main.1,by omega,?_,?_,?_⟩,main.2,?_,?_,?_⟩
 · rw [ye,Int.neg_mul,← Int.mul_neg];congr 1;omega
 · rw [xe,ye,Int.neg_mul,← Int.mul_neg,Int.mul_left_comm q s,← Int.mul_sub];congr 1
   rw [Int.add_mul,Int.add_mul,Int.mul_sub,Int.mul_assoc,Int.mul_assoc];omega
 · rw [ve,Int.neg_mul,← Int.mul_neg];congr 1;omega
 · rw [ue,ve,Int.neg_mul,← Int.mul_neg,Int.mul_left_comm q s,← Int.mul_sub];congr 1
   rw [Int.add_mul,Int.add_mul,Int.mul_sub,Int.mul_assoc,Int.mul_assoc];omega
 · rw [Int.add_mul,Int.mul_sub,Int.mul_assoc q D,Int.mul_left_comm D q];omega
 · rw [Int.add_mul,Int.mul_sub,Int.mul_assoc q C,Int.mul_left_comm C q];omega
 · rw [Int.add_mul,Int.mul_sub,Int.mul_assoc q D,Int.mul_left_comm D q];omega
 · rw [Int.add_mul,Int.mul_sub,Int.mul_assoc q C,Int.mul_left_comm C q];omega
 · rcases sg with rfl | rfl
   · omega
   · omega
 · intro h;rcases sg with rfl | rfl
   · omega
   · have:=v2 rfl;omega
 · intro h;rcases sg with rfl | rfl
   · have:=v1 rfl;omega
   · omega
 · rcases sg with rfl | rfl <;> omega
 · rcases sg with rfl | rfl <;> omega
 · rcases sg with rfl | rfl <;> omega
theorem LeadAt.gcd {X Y H u0 v0 s A B C D u v X' Y':Int} (h:LeadAt X Y H u0 v0 s A B C D u v X' Y'):Int.gcd X' Y'=Int.gcd X Y:=by
 apply Nat.dvd_antisymm
 · refine Int.dvd_gcd ?_ ?_
   · rw [h.xb];exact Int.dvd_add (Int.dvd_mul_of_dvd_right (Int.gcd_dvd_left ..)) (Int.dvd_mul_of_dvd_right (Int.gcd_dvd_right ..))
   · rw [h.yb];exact Int.dvd_add (Int.dvd_mul_of_dvd_right (Int.gcd_dvd_left ..)) (Int.dvd_mul_of_dvd_right (Int.gcd_dvd_right ..))
 · refine Int.dvd_gcd ?_ ?_
   · rw [h.xe];exact Int.dvd_mul_of_dvd_right (Int.dvd_sub (Int.dvd_mul_of_dvd_right (Int.gcd_dvd_left ..)) (Int.dvd_mul_of_dvd_right (Int.gcd_dvd_right ..)))
   · rw [h.ye];exact Int.dvd_mul_of_dvd_right (Int.dvd_sub (Int.dvd_mul_of_dvd_right (Int.gcd_dvd_right ..)) (Int.dvd_mul_of_dvd_right (Int.gcd_dvd_left ..)))
theorem small_step {C' A' u' v' w0 R:Int} (hC:0≤C') (hlt:C' < u') (h:w0=C'*u'+A'*v') (hA:0≤A') (hv:0≤v') (hw:w0 < R*R) (hR:0≤R):C' < R:=by
 rcases Int.lt_or_le C' R with h1 | h1
 · exact h1
 · have h2:R*R≤C'*u':=Int.mul_le_mul h1 (by omega) hR hC
   have h3:=Int.mul_nonneg hA hv
   omega
theorem lead_floor {f:Nat→Int} {m:Nat} {G sc:Int} (hf:∀ j,0≤f j∧f j < 1000000000) (hG:0 < G) (hGs:G*sc=1000000000) :
   ((f (m+2)*1000000000+f (m+1))*sc+f m / G)*(1000000000 ^ m*G)≤psum 1000000000 f (m+3) ∧
   psum 1000000000 f (m+3) < ((f (m+2)*1000000000+f (m+1))*sc+f m / G+1)*(1000000000 ^ m*G):=by
 have h1:=psum_in (by decide:(0:Int) < 1000000000) hf m
 have e:psum 1000000000 f (m+3)=psum 1000000000 f m+1000000000 ^ m*(f m+1000000000*(f (m+1)+f (m+2)*1000000000)):=by
   show psum 1000000000 f m+1000000000 ^ m*f m+1000000000 ^ (m+1)*f (m+1)+1000000000 ^ (m+1+1)*f (m+2)=_
   rw [Int.pow_succ 1000000000 (m+1),Int.pow_succ,Int.mul_add,Int.mul_add,Int.mul_add,Int.mul_assoc,Int.mul_assoc,Int.mul_assoc,Int.mul_comm (f (m+2)) 1000000000];omega
 rw [e]
 obtain ⟨P,hP⟩:∃ P:Int,1000000000 ^ m=P:=⟨_,rfl⟩
 have hP0:0 < P:=by rw [← hP];exact Int.pow_pos (by decide)
 rw [hP] at h1 ⊢
 obtain ⟨q,hq⟩:∃ q,f m / G=q:=⟨_,rfl⟩
 have d1:=Int.emod_add_mul_ediv (f m) G
 have d2:=Int.emod_nonneg (f m) (by omega:G≠0)
 have d3:=Int.emod_lt_of_pos (f m) hG
 rw [hq] at d1 ⊢
 obtain ⟨r,hr⟩:∃ r,f m % G=r:=⟨_,rfl⟩
 rw [hr] at d1 d2 d3
 obtain ⟨K,hK⟩:∃ K,f (m+2)*1000000000+f (m+1)=K:=⟨_,rfl⟩
 rw [show f (m+1)+f (m+2)*1000000000=K by omega,hK]
 have e2:f m+1000000000*K=(K*sc+q)*G+r:=by
   rw [Int.add_mul,← hGs,← d1,Int.mul_comm G sc,Int.mul_comm G q,Int.mul_comm (sc*G),Int.mul_assoc];omega
 rw [e2]
 obtain ⟨L,hL⟩:∃ L,K*sc+q=L:=⟨_,rfl⟩
 rw [hL]
 have e3:P*(L*G+r)=L*(P*G)+P*r:=by rw [Int.mul_add,Int.mul_left_comm]
 have h3:0≤P*r:=Int.mul_nonneg (by omega) d2
 have h4:P*(r+1)≤P*G:=Int.mul_le_mul_of_nonneg_left (by omega) (by omega)
 rw [Int.mul_add,Int.mul_one] at h4
 rw [e3,Int.add_mul,Int.one_mul]
 omega
theorem lead_small {f1 f2 f3 sc G:Int} (h2:f2 < 1000000000) (h3:f3 < 1000000000) (h30:0≤f3) (hsc:0 < sc) (hG:0 < G) (hGs:G*sc=1000000000) (h1:f1*sc < 1000000000) :
   (f1*1000000000+f2)*sc+f3 / G < 1000000000000000000:=by
 have a:f1 < G:=by
   rcases Int.lt_or_le f1 G with h | h
   · exact h
   · have:=Int.mul_le_mul_of_nonneg_right h (Int.le_of_lt hsc);omega
 have b:f3 / G < sc:=Int.ediv_lt_of_lt_mul hG (by rw [Int.mul_comm];omega)
 have c:(f1+1)*sc≤G*sc:=Int.mul_le_mul_of_nonneg_right (by omega) (by omega)
 have d:(f2+1)*sc≤1000000000*sc:=Int.mul_le_mul_of_nonneg_right (by omega) (by omega)
 rw [Int.add_mul,Int.one_mul] at c d
 rw [Int.add_mul,Int.mul_right_comm]
 omega
theorem lead_le {u0 v0 H X Y:Int} (hH:0 < H) (h1:v0*H≤Y) (h2:Y≤X) (h3:X < (u0+1)*H):v0≤u0:=by
 have:v0*H < (u0+1)*H:=by omega
 have:=Int.lt_of_mul_lt_mul_right this (Int.le_of_lt hH);omega
end Go.Proofs.YtpphjnekkjeacaaGreatDoor.Kl
namespace Go.Proofs.YtpphjnekkjeacaaGreatDoor.Kl
open Go Go.RowKit
set_option maxRecDepth 100000
set_option maxHeartbeats 8000000
def LeadOut (X Y:Nat) (a b c d:Int):Prop:=
 b = 0∨(b≠0∧(-1000000000≤a∧a≤1000000000)∧(-1000000000≤b∧b≤1000000000)∧(-1000000000≤c∧c≤1000000000)∧(-1000000000≤d∧d≤1000000000) ∧
   ∃ X' Y':Nat,a*X+b*Y=X'∧c*X+d*Y=Y'∧Y'≤X'∧Y' < Y∧X'≤X∧Nat.gcd X' Y'=Nat.gcd X Y)
theorem pow10_mul (k:Nat) (h:k≤9):(10:Int) ^ (9 - k)*10 ^ k=1000000000:=by
 rw [← Int.pow_add,Nat.sub_add_cancel h];rfl
theorem leading_any (p:Option Addr) (m c k n:Nat) (xs:List Int) (b5 b6:Nat) (w:World) (hm:m=xs.length) (hml:m≤100000) (hn:n≤100000) (h:Has w p xs) (hk:k≤8)
   (hxs:∀ j:Nat,0≤xs[j]?.getD 0∧xs[j]?.getD 0 < 1000000000) (h1:xs[n+2]?.getD 0*10 ^ k < 1000000000)
   (c5:w.cell? ⟨b5,0,none⟩=some (.int .i64 ((n:Int)+3))) (c6:w.cell? ⟨b6,0,none⟩=some (.int .i64 ((10:Int) ^ k))) :
   Calls Tryz.prog 208 #[.slice p m c,.pointer (some ⟨b5,0,none⟩),.pointer (some ⟨b6,0,none⟩)] w (Ret w (.int .i64 ((xs[n+2]?.getD 0*1000000000+xs[n+1]?.getD 0)*10 ^ k+xs[n]?.getD 0 / 10 ^ (9 - k)))):=by
 have a2:∀ w,Has w p xs→Calls Tryz.prog 209 #[.slice p m c,.int .i64 ((n:Int)+2)] w fun e w' => e = .returned (.int .i64 (xs[n+2]?.getD 0))∧w=w':=fun w h=>at_any p m c xs (n+2) w hm (by omega) (by omega) h
 have a1:∀ w,Has w p xs→Calls Tryz.prog 209 #[.slice p m c,.int .i64 ((n:Int)+1)] w fun e w' => e = .returned (.int .i64 (xs[n+1]?.getD 0))∧w=w':=fun w h=>at_any p m c xs (n+1) w hm (by omega) (by omega) h
 have a0:∀ w,Has w p xs→Calls Tryz.prog 209 #[.slice p m c,.int .i64 (n:Int)] w fun e w' => e = .returned (.int .i64 (xs[n]?.getD 0))∧w=w':=fun w h=>at_any p m c xs n w hm (by omega) (by omega) h
 have x2:=hxs (n+2)
 have x1:=hxs (n+1)
 have x0:=hxs n
 obtain ⟨z2,hz2⟩:∃ z,xs[n+2]?.getD 0=z:=⟨_,rfl⟩
 obtain ⟨z1,hz1⟩:∃ z,xs[n+1]?.getD 0=z:=⟨_,rfl⟩
 obtain ⟨z0,hz0⟩:∃ z,xs[n]?.getD 0=z:=⟨_,rfl⟩
 have hGs:=pow10_mul k (by omega)
 have hs0:(0:Int) < 10 ^ k:=Int.pow_pos (by decide)
 have hG0:(0:Int) < 10 ^ (9 - k):=Int.pow_pos (by decide)
 obtain ⟨sc,hsc⟩:∃ sc,(10:Int) ^ k=sc:=⟨_,rfl⟩
 obtain ⟨G,hG⟩:∃ G,(10:Int) ^ (9 - k)=G:=⟨_,rfl⟩
 simp only [hz2] at a2 x2 h1
 simp only [hz1] at a1 x1
 simp only [hz0] at a0 x0
 rw [hz2,hz1,hz0,hsc,hG]
 rw [hsc] at c6 hGs hs0 h1
 rw [hG] at hGs hG0
 have hs9:sc≤1000000000:=by
   have:=Int.mul_le_mul_of_nonneg_right (show (1:Int)≤G by omega) (Int.le_of_lt hs0);omega
 have hG9:G≤1000000000:=by
   have:=Int.mul_le_mul_of_nonneg_left (show (1:Int)≤sc by omega) (Int.le_of_lt hG0);omega
 have t1:(1000000000:Int).tdiv sc=G:=by rw [← hGs];exact Int.mul_tdiv_cancel _ (by omega)
 have t2:z0.tdiv G=z0 / G:=Int.tdiv_eq_ediv_of_nonneg x0.1
 have hsm:=lead_small (f1:=z2) (f2:=z1) (f3:=z0) (sc:=sc) (G:=G) x1.2 x0.2 x0.1 hs0 hG0 hGs h1
 have q0:0≤z0 / G:=Int.ediv_nonneg x0.1 (by omega)
 have q1:z0 / G≤z0:=Int.ediv_le_self _ x0.1
 have p0:0≤(z2*1000000000+z1)*sc:=Int.mul_nonneg (by omega) (by omega)
 obtain ⟨q,hq⟩:∃ q,z0 / G=q:=⟨_,rfl⟩
 obtain ⟨P,hP⟩:∃ P,(z2*1000000000+z1)*sc=P:=⟨_,rfl⟩
 rw [hq] at t2 hsm q0 q1
 rw [hP] at hsm p0
 have y1:IntKind.i64.wrap ((n:Int)+3 - 1)=(n:Int)+2:=by rw [show (n:Int)+3 - 1=(n:Int)+2 by omega];exact IntWalk.i64_in _ (by omega)
 have y2:IntKind.i64.wrap ((n:Int)+3 - 2)=(n:Int)+1:=by rw [show (n:Int)+3 - 2=(n:Int)+1 by omega];exact IntWalk.i64_in _ (by omega)
 have y3:IntKind.i64.wrap ((n:Int)+3 - 3)=(n:Int):=by rw [show (n:Int)+3 - 3=(n:Int) by omega];exact IntWalk.i64_in _ (by omega)
 have y4:IntKind.i64.wrap (z2*1000000000)=z2*1000000000:=IntWalk.i64_in _ (by omega)
 have y5:IntKind.i64.wrap (z2*1000000000+z1)=z2*1000000000+z1:=IntWalk.i64_in _ (by omega)
 have y6:IntKind.i64.wrap ((z2*1000000000+z1)*sc)=P:=by rw [hP];exact IntWalk.i64_in _ (by omega)
 have y7:IntKind.i64.wrap (P+q)=P+q:=IntWalk.i64_in _ (by omega)
 have y8:IntKind.i64.wrap G=G:=IntWalk.i64_in _ (by omega)
 have y9:IntKind.i64.wrap q=q:=IntWalk.i64_in _ (by omega)
 have hsne:¬ sc=0:=by omega
 have hGne:¬ G=0:=by omega
 obtain ⟨i2,hi2⟩:∃ i2:Int,(n:Int)+2=i2:=⟨_,rfl⟩
 obtain ⟨i1,hi1⟩:∃ i1:Int,(n:Int)+1=i1:=⟨_,rfl⟩
 obtain ⟨i0,hi0⟩:∃ i0:Int,(n:Int)=i0:=⟨_,rfl⟩
 obtain ⟨i3,hi3⟩:∃ i3:Int,(n:Int)+3=i3:=⟨_,rfl⟩
 rw [hi3,hi2] at y1
 rw [hi3,hi1] at y2
 rw [hi3] at y3 c5
 simp only [hi2] at a2
 simp only [hi1] at a1
 simp only [hi0] at a0 y3
 have A2:=Lib.hid a2
 have A1:=Lib.hid a1
 have A0:=Lib.hid a0
 have H:=Lib.hid h
 have HQ:=Lib.hid hq
 have HP:=Lib.hid hP
 clear hi0 hi1 hi2 hi3 a2 a1 a0 h hz2 hz1 hz0 hsc hG hGs h1 hm hxs hsm hq hP
 have q2:∀ n,Calls Tryz.prog 209 #[.slice p m c,.int .i64 i2] (w.drewN n) fun e w'' => e = .returned (.int .i64 z2)∧∃ n,w''=w.drewN n:=fun n=>(A2.out _ (H.out.below (Below.drews (Below.refl _ _) n))).mono fun _ _ ⟨he,hw⟩=>⟨he,_,hw.symm⟩
 have q1:∀ n,Calls Tryz.prog 209 #[.slice p m c,.int .i64 i1] (w.drewN n) fun e w'' => e = .returned (.int .i64 z1)∧∃ n,w''=w.drewN n:=fun n=>(A1.out _ (H.out.below (Below.drews (Below.refl _ _) n))).mono fun _ _ ⟨he,hw⟩=>⟨he,_,hw.symm⟩
 have q00:∀ n,Calls Tryz.prog 209 #[.slice p m c,.int .i64 i0] (w.drewN n) fun e w'' => e = .returned (.int .i64 z0)∧∃ n,w''=w.drewN n:=fun n=>(A0.out _ (H.out.below (Below.drews (Below.refl _ _) n))).mono fun _ _ ⟨he,hw⟩=>⟨he,_,hw.symm⟩
 have Q2:=Lib.hid q2
 have Q1:=Lib.hid q1
 have Q0:=Lib.hid q00
 clear q2 q1 q00
 go_enter Tryz.func208,Tryz.ntmps208
 go_wp2
 go_quiet (first | (go_at_call 209;with_reducible exact Q2.out _) | (go_at_call 209;with_reducible exact Q1.out _) | (go_at_call 209;with_reducible exact Q0.out _))
 go_wp2
 go_ret
 exact ⟨retI (by rw [HP.out,HQ.out]),Below.drews (Below.refl _ _) _⟩
theorem one_set {w:World} {B:Nat} {v r:Value} {t:TypeId} (hB:w.heap[B]? = some (.cells #[v] t (0,0))) :
   (w.setCell ⟨B,0,none⟩ r).heap[B]? = some (.cells #[r] t (0,0)):=by
 simp [World.setCell,Array.getElem?_modify,hB]
structure LehAt (X Y H u0 v0:Int) (a b c d u v:Int):Prop where
 ex:∃ s A B C D X' Y',LeadAt X Y H u0 v0 s A B C D u v X' Y'∧a=s*A∧b = -(s*B)∧c = -(s*C)∧d=s*D∧1≤D∧A≤1000000000∧B≤1000000000∧C≤1000000000∧D≤1000000000 ∧
   ((B=0∧X'=X∧Y'=Y)∨(1≤B∧Y' < Y∧X'≤X))
 ab : -1000000000≤a∧a≤1000000000
 bb : -1000000000≤b∧b≤1000000000
 cb : -1000000000≤c∧c≤1000000000
 db : -1000000000≤d∧d≤1000000000
 v0':0≤v
 uv:v≤u
 uu:u≤u0
 vc:0≤v+c
 vd:0≤v+d
 ua:0≤u+a
 ub:0≤u+b
 uq:v+c≤u+a∨v+d≤u+b
theorem LehAt.of {X Y H u0 v0 s A B C D u v X' Y':Int} (h:LeadAt X Y H u0 v0 s A B C D u v X' Y') (hD:1≤D) (hA9:A≤1000000000) (hB9:B≤1000000000) (hC9:C≤1000000000) (hD9:D≤1000000000)
   (hor:(B=0∧X'=X∧Y'=Y)∨(1≤B∧Y' < Y∧X'≤X)) (hv0:0≤v):LehAt X Y H u0 v0 (s*A) (-(s*B)) (-(s*C)) (s*D) u v:=by
 have a0:=h.a0
 have b0:=h.b0
 have c0:=h.c0
 have uv:=h.uv
 have v1:=h.v1
 have v2:=h.v2
 have hu0:u≤u0:=by
   have e:=h.ub
   have m1:u*1≤u*D:=Int.mul_le_mul_of_nonneg_left hD (by omega)
   have m2:0≤B*v:=Int.mul_nonneg b0 hv0
   rw [Int.mul_comm u D] at m1
   omega
 refine ⟨⟨s,A,B,C,D,X',Y',h,rfl,rfl,rfl,rfl,hD,hA9,hB9,hC9,hD9,hor⟩,?_,?_,?_,?_,hv0,uv,hu0,?_,?_,?_,?_,?_⟩
 all_goals
   rcases h.sg with rfl | rfl
   · have:=v1 rfl
     simp only [Int.one_mul]
     omega
   · have:=v2 rfl
     simp only [Int.neg_mul,Int.one_mul]
     omega
theorem LehAt.start {X Y H u0 v0:Int} (hXY:Y≤X) (hY:0≤Y) (huv:v0≤u0) (hv:0≤v0):LehAt X Y H u0 v0 1 0 0 1 u0 v0:=by
 have:=LehAt.of (LeadAt.start (H:=H) hXY hY huv hv) (by decide) (by decide) (by decide) (by decide) (by decide) (.inl ⟨rfl,rfl,rfl⟩) hv
 simpa using this
theorem LehAt.next {X Y H u0 v0 a b c d u v q:Int} (h:LehAt X Y H u0 v0 a b c d u v) (hH:0 < H) (hx0:u0*H≤X) (hx1:X≤(u0+1)*H) (hy0:v0*H≤Y) (hy1:Y≤(v0+1)*H) (hu9:u0 < 1000000000000000000) (hvu:v0≤u0)
   (hYX:Y≤X) (hc0:0 < v+c) (hd0:0 < v+d) (hq1:(u+a) / (v+c)=q) (hq2:(u+b) / (v+d)=q) :
   1≤q∧q≤u0+1000000000∧LehAt X Y H u0 v0 c d (a - q*c) (b - q*d) v (u - q*v)∧u - q*v < v:=by
 obtain ⟨s,A,B,C,D,X',Y',hL,rfl,rfl,rfl,rfl,hD,hA9,hB9,hC9,hD9,hor⟩:=h.ex
 have hq0:1≤q:=by
   rcases h.uq with h9 | h9
   · rw [← hq1];exact (Int.le_ediv_iff_mul_le hc0).2 (by omega)
   · rw [← hq2];exact (Int.le_ediv_iff_mul_le hd0).2 (by omega)
 have e1:=Int.ediv_mul_le (u+s*A) (show v + -(s*C)≠0 by omega)
 have e2:=Int.lt_ediv_add_one_mul_self (u+s*A) hc0
 have e3:=Int.ediv_mul_le (u + -(s*B)) (show v+s*D≠0 by omega)
 have e4:=Int.lt_ediv_add_one_mul_self (u + -(s*B)) hd0
 rw [hq1] at e1 e2
 rw [hq2] at e3 e4
 obtain ⟨hst,hlt,hBv,hAv,huv⟩:=hL.step hH hx0 hx1 hy0 hy1 (by omega) e1 e2 e3 e4
 have hq9:q≤u0+1000000000:=by
   have m:q*1≤q*(v + -(s*C)):=Int.mul_le_mul_of_nonneg_left (by omega) (by omega)
   have:=h.uu
   have:=h.ab
   omega
 have hDq:D≤q*D:=by
   have m:1*D≤q*D:=Int.mul_le_mul_of_nonneg_right hq0 (by omega)
   omega
 have hv9:0≤u - q*v:=by
   have s1:=hst.v1
   have s2:=hst.v2
   have s3:=hst.c0
   have s4:=hst.d0
   rcases hL.sg with rfl | rfl
   · have:=s2 rfl;omega
   · have:=s1 rfl;omega
 have hC9':=small_step hst.c0 hAv hst.vb hst.a0 hv9 (show v0 < 1000000000*1000000000 by omega) (by decide)
 have hD9':=small_step hst.d0 hBv hst.ub hst.b0 hv9 (show u0 < 1000000000*1000000000 by omega) (by decide)
 have hY'Y:Y'≤Y∧Y'≤X:=by
   rcases hor with ⟨_,h1,h2⟩ | ⟨_,h1,h2⟩
   · omega
   · omega
 have hnew:=LehAt.of hst (by omega) hC9 hD9 (by omega) (by omega) (.inr ⟨hD,by omega,by omega⟩) hv9
 have n1 : -s*C = -(s*C):=Int.neg_mul _ _
 have n2 : -(-s*D)=s*D:=by rw [Int.neg_mul,Int.neg_neg]
 have n3 : -(-s*(A+q*C))=s*A - q * -(s*C):=by rw [Int.neg_mul,Int.neg_neg,Int.mul_add,Int.mul_left_comm s q,Int.mul_neg];omega
 have n4 : -s*(B+q*D) = -(s*B) - q*(s*D):=by rw [Int.neg_mul,Int.mul_add,Int.mul_left_comm s q];omega
 rw [n1,n2,n3,n4] at hnew
 exact ⟨hq0,hq9,hnew,huv⟩
theorem LehAt.out {X Y:Nat} {H u0 v0 a b c d u v:Int} (h:LehAt (X:Int) (Y:Int) H u0 v0 a b c d u v):LeadOut X Y a b c d:=by
 obtain ⟨s,A,B,C,D,X',Y',hL,e1,e2,e3,e4,hD,_,_,_,_,hor⟩:=h.ex
 rcases hor with ⟨hB,_,_⟩ | ⟨hB,hY,hX⟩
 · left;rw [e2,hB,Int.mul_zero];rfl
 · right
   have hy0:=hL.y0
   have hyx:=hL.yx
   obtain ⟨X2,rfl⟩:∃ X2:Nat,X'=(X2:Int):=⟨X'.toNat,by omega⟩
   obtain ⟨Y2,rfl⟩:∃ Y2:Nat,Y'=(Y2:Int):=⟨Y'.toNat,by omega⟩
   refine ⟨?_,h.ab,h.bb,h.cb,h.db,X2,Y2,?_,?_,by omega,by omega,by omega,hL.gcd⟩
   · rw [e2]
     rcases hL.sg with rfl | rfl
     · rw [Int.one_mul];omega
     · rw [Int.neg_mul,Int.one_mul];omega
   · rw [hL.xe,e1,e2,Int.mul_sub,Int.neg_mul,Int.mul_assoc,Int.mul_assoc];omega
   · rw [hL.ye,e3,e4,Int.mul_sub,Int.neg_mul,Int.mul_assoc,Int.mul_assoc];omega
theorem lead_nums {X Y N k:Nat} (hlX:(pcM X).length=N+3) (hlY:(pcM Y).length≤N+3) (hYX:Y≤X) (hk:k≤8) (hx9:(pcM X)[N+2]?.getD 0*10 ^ k < 1000000000) :
   ∃ u0 v0 H:Int,((pcM X)[N+2]?.getD 0*1000000000+(pcM X)[N+1]?.getD 0)*10 ^ k+(pcM X)[N]?.getD 0 / 10 ^ (9 - k)=u0∧((pcM Y)[N+2]?.getD 0*1000000000+(pcM Y)[N+1]?.getD 0)*10 ^ k+(pcM Y)[N]?.getD 0 / 10 ^ (9 - k)=v0 ∧
     0 < H∧u0*H≤X∧(X:Int)≤(u0+1)*H∧v0*H≤Y∧(Y:Int)≤(v0+1)*H∧u0 < 1000000000000000000∧v0≤u0∧0≤v0∧(pcM Y)[N+2]?.getD 0*10 ^ k < 1000000000:=by
 have hGs:=pow10_mul k (by omega)
 have hs0:(0:Int) < 10 ^ k:=Int.pow_pos (by decide)
 have hG0:(0:Int) < 10 ^ (9 - k):=Int.pow_pos (by decide)
 have fx:=lead_floor (f:=fun j=>(pcM X)[j]?.getD 0) (m:=N) (pcM_in X) hG0 hGs
 have fy:=lead_floor (f:=fun j=>(pcM Y)[j]?.getD 0) (m:=N) (pcM_in Y) hG0 hGs
 rw [← pval_psum 1000000000 (pcM X) (N+3) (by omega),(pcM_isP X).2] at fx
 rw [← pval_psum 1000000000 (pcM Y) (N+3) hlY,(pcM_isP Y).2] at fy
 have hH:(0:Int) < 1000000000 ^ N*10 ^ (9 - k):=Int.mul_pos (Int.pow_pos (by decide)) hG0
 have hyt:(pcM Y)[N+2]?.getD 0≤(pcM X)[N+2]?.getD 0:=by
   by_cases hl:(pcM Y).length=N+3
   · rcases Int.lt_or_le ((pcM X)[N+2]?.getD 0) ((pcM Y)[N+2]?.getD 0) with h | h
     · have:=pval_top (by decide:(0:Int) < 1000000000) (pcM_isP X).1.1 (pcM_isP Y).1.1 (k:=N+2) (by omega) (by omega) (by rw [List.drop_eq_nil_of_le (by omega),List.drop_eq_nil_of_le (by omega)]) h
       rw [(pcM_isP X).2,(pcM_isP Y).2] at this
       omega
     · exact h
   · rw [List.getElem?_eq_none (l:=pcM Y) (by omega)];exact (pcM_in X (N+2)).1
 have hy9:(pcM Y)[N+2]?.getD 0*10 ^ k < 1000000000:=Int.lt_of_le_of_lt (Int.mul_le_mul_of_nonneg_right hyt (Int.le_of_lt hs0)) hx9
 have hu9:=lead_small (pcM_in X (N+1)).2 (pcM_in X N).2 (pcM_in X N).1 hs0 hG0 hGs hx9
 have hvu:=lead_le hH fy.1 (Int.ofNat_le.2 hYX) fx.2
 have hv0:0≤((pcM Y)[N+2]?.getD 0*1000000000+(pcM Y)[N+1]?.getD 0)*10 ^ k+(pcM Y)[N]?.getD 0 / 10 ^ (9 - k):=by
   have a1:=(pcM_in Y (N+2)).1
   have a2:=(pcM_in Y (N+1)).1
   have a3:=Int.mul_nonneg (show 0≤(pcM Y)[N+2]?.getD 0*1000000000+(pcM Y)[N+1]?.getD 0 by omega) (Int.le_of_lt hs0)
   have a4:=Int.ediv_nonneg (pcM_in Y N).1 (Int.le_of_lt hG0)
   omega
 exact ⟨_,_,_,rfl,rfl,hH,fx.1,Int.le_of_lt fx.2,fy.1,Int.le_of_lt fy.2,hu9,hvu,hv0,hy9⟩
theorem steps_set {w:World} {B:Nat} {a b c d v0 v1 v2 v3:Value} {t:TypeId} (hB:w.heap[B]? = some (.cells #[a,b,c,d] t (0,0))) :
   ((((w.setCell ⟨B,0,none⟩ v0).setCell ⟨B,1,none⟩ v1).setCell ⟨B,2,none⟩ v2).setCell ⟨B,3,none⟩ v3).heap[B]? = some (.cells #[v0,v1,v2,v3] t (0,0)):=by
 simp [World.setCell,Array.getElem?_modify,hB]
theorem steps_other (w:World) (B k:Nat) (v0 v1 v2 v3:Value) (h:k≠B):((((w.setCell ⟨B,0,none⟩ v0).setCell ⟨B,1,none⟩ v1).setCell ⟨B,2,none⟩ v2).setCell ⟨B,3,none⟩ v3).heap[k]? = w.heap[k]?:=by
 rw [heap_set_other _ _ _ _ _ h,heap_set_other _ _ _ _ _ h,heap_set_other _ _ _ _ _ h,heap_set_other _ _ _ _ _ h]
theorem steps_below {w0 w:World} {A B:Nat} {v0 v1 v2 v3:Value} (h:Below A w0 w) (hB:A≤B):Below A w0 ((((w.setCell ⟨B,0,none⟩ v0).setCell ⟨B,1,none⟩ v1).setCell ⟨B,2,none⟩ v2).setCell ⟨B,3,none⟩ v3):=
 (((h.setCell (p:=⟨B,0,none⟩) hB _).setCell (p:=⟨B,1,none⟩) hB _).setCell (p:=⟨B,2,none⟩) hB _).setCell (p:=⟨B,3,none⟩) hB _
theorem ediv_pos_facts {x y:Int} (hx:0≤x) (hy:0 < y):x.tdiv y=x / y∧0≤x / y∧x / y≤x:=⟨Int.tdiv_eq_ediv_of_nonneg hx,Int.ediv_nonneg hx (by omega),Int.ediv_le_self _ hx⟩
theorem lead_sm {p q:Option Addr} {c m d X Y N:Nat} {w:World} (h1:Sm w p (N+3) c X) (h2:Sm w q m d Y) (hYX:Y≤X) (hN:N≤90000) :
   Calls Tryz.prog 175 #[.slice p (N+3) c,.slice q m d] w fun e w' => ∃ a b c' d':Int,e = .returned (.agg #[.int .i64 a,.int .i64 b,.int .i64 c',.int .i64 d'])∧LeadOut X Y a b c' d'∧Below w.heap.size w w':=by
 have hlX:(pcM X).length=N+3:=h1.len.symm
 have hlY:(pcM Y).length≤N+3:=by rw [← hlX];exact pcM_len_mono hYX
 obtain ⟨bx,ox,rfl,hbx,hcx⟩:∃ b o,p=some ⟨b,o,none⟩∧b < w.heap.size∧∀ i,i < (pcM X).length→w.cell? ⟨b,o+i,none⟩=some (.int .i64 ((pcM X)[i]?.getD 0)):=by
   rcases h1.has with h | h
   · rw [h] at hlX;simp at hlX
   · exact h
 have hct:=hcx (N+2) (by omega)
 have hxt:=pcM_in X (N+2)
 have hxt1:=pcM_top X (N+2) hlX
 obtain ⟨xt,hxte⟩:∃ xt,(pcM X)[N+2]?.getD 0=xt:=⟨_,rfl⟩
 rw [hxte] at hct hxt hxt1
 obtain ⟨B5,hB5⟩:∃ B5,w.heap.size+1=B5:=⟨_,rfl⟩
 obtain ⟨B6,hB6⟩:∃ B6,B5+1=B6:=⟨_,rfl⟩
 obtain ⟨mv,hmv⟩:∃ mv:World→Nat,∀ wr z,wr.cell? ⟨B6,0,none⟩=some (.int .i64 z)→mv wr=(1000000000 - z).toNat:=
   ⟨fun wr=>match wr.cell? ⟨B6,0,none⟩ with | some (.int _ z)=>(1000000000 - z).toNat | _=>0,fun wr z h=>by simp [h]⟩
 have HMV:=Lib.hid hmv
 have H1:=Lib.hid h1
 have H2:=Lib.hid h2
 have HLX:=Lib.hid hlX
 have HLY:=Lib.hid hlY
 have HXTE:=Lib.hid hxte
 clear hmv h1 h2 hcx hxte hlX hlY
 go_enter Tryz.func175,Tryz.ntmps175
 go_upto_block 0 with fail
 obtain ⟨W3,hW3⟩:∃ W3,((w.alloc (Obj.cells #[Value.int .i64 0,Value.int .i64 0,Value.int .i64 0,Value.int .i64 0] 217)).alloc (Obj.cells #[Value.int .i64 ((N:Int)+3)] 3)).alloc (Obj.cells #[Value.int .i64 1] 3)=W3:=⟨_,rfl⟩
 have hh:=heap3 w (Obj.cells #[Value.int .i64 0,Value.int .i64 0,Value.int .i64 0,Value.int .i64 0] 217) (Obj.cells #[Value.int .i64 ((N:Int)+3)] 3) (Obj.cells #[Value.int .i64 1] 3)
 have hb3:Below w.heap.size w W3:=by rw [← hW3];exact (((Below.refl _ _).alloc (Nat.le_refl _) _).alloc (by simp) _).alloc (by simp;omega) _
 have hs3:W3.heap.size=w.heap.size+3:=by rw [← hW3];simp only [World.size_alloc]
 rw [hW3] at hh
 obtain ⟨k4,k5,k6⟩:=hh
 rw [hW3]
 have k5':W3.heap[B5]? = some (Obj.cells #[Value.int .i64 ((N:Int)+3)] 3 (0,0)):=by rw [← hB5];exact k5
 have k6':W3.heap[B6]? = some (Obj.cells #[Value.int .i64 1] 3 (0,0)):=by rw [← hB6,← hB5];exact k6
 have hsz:B6 < W3.heap.size:=by omega
 have h56:B5≠B6:=by omega
 have h46:w.heap.size≠B6:=by omega
 have h6w:w.heap.size≤B6:=by omega
 have h5w:w.heap.size≤B5:=by omega
 have K0:=Lib.hid (And.intro k4 (And.intro k5' (And.intro k6' hb3)))
 clear k4 k5 k6 k5' k6' hb3 hW3 hs3
 go_wp2
 go_loopw [15] (fun _ wr=>∃ k:Nat,k≤8∧wr.heap[w.heap.size]? = some (Obj.cells #[Value.int .i64 0,Value.int .i64 0,Value.int .i64 0,Value.int .i64 0] 217 (0,0))∧wr.heap[B5]? = some (Obj.cells #[Value.int .i64 ((N:Int)+3)] 3 (0,0))∧wr.heap[B6]? = some (Obj.cells #[Value.int .i64 ((10:Int) ^ k)] 3 (0,0))∧xt*10 ^ k < 1000000000∧Below w.heap.size w wr) (fun _ wr=>mv wr)
 case atStart=>exact ⟨0,by decide,K0.out.1,K0.out.2.1,K0.out.2.2.1,by rw [Int.pow_zero,Int.mul_one];exact hxt.2,K0.out.2.2.2⟩
 case round =>
   obtain ⟨k,hk,k4,k5,k6,hx9,hb⟩:=hrel
   have c5:wr.cell? ⟨B5,0,none⟩=some (.int .i64 ((N:Int)+3)):=zA k5
   have cx:=(hb.cell (p:=⟨bx,ox+(N+2),none⟩) hbx).trans hct
   have hs1:(1:Int)≤10 ^ k:=by have:(0:Int) < 10 ^ k:=Int.pow_pos (by decide);omega
   have hs9:(10:Int) ^ k≤xt*10 ^ k:=by
     have:=Int.mul_le_mul_of_nonneg_right hxt1 (show (0:Int)≤10 ^ k by omega);omega
   have hk8:xt*10 ^ k < 100000000→k≤7:=fun h=>by
     rcases Nat.lt_or_ge k 8 with h8 | h8
     · omega
     · obtain rfl:k=8:=by omega
       have:(10:Int) ^ 8=100000000:=rfl
       omega
   obtain ⟨u0,v0,H,hu0,hv0,hH,hf1,hf2,hf3,hf4,hu9,hvu,hv00,hy9⟩:=lead_nums HLX.out HLY.out hYX hk (by rw [HXTE.out];exact hx9)
   have lx:∀ w',Below wr.heap.size wr w'→Calls Tryz.prog 208 #[.slice (some ⟨bx,ox,none⟩) (N+3) c,.pointer (some ⟨B5,0,none⟩),.pointer (some ⟨B6,0,none⟩)] w' fun e w'' => e = .returned (.int .i64 u0)∧Below w'.heap.size w' w'':=fun w' hb' => by
     have:=leading_any (some ⟨bx,ox,none⟩) (N+3) c k N (pcM X) B5 B6 w' HLX.out.symm (by omega) (by omega) ((H1.out.has.below hb).below hb') hk (pcM_in X) (by rw [HXTE.out];exact hx9) ((hb'.cell (p:=⟨B5,0,none⟩) (Lib.lt_of_cell (zA k5))).trans (zA k5)) ((hb'.cell (p:=⟨B6,0,none⟩) (Lib.lt_of_cell (zA k6))).trans (zA k6))
     rwa [hu0] at this
   have ly:∀ w',Below wr.heap.size wr w'→Calls Tryz.prog 208 #[.slice q m d,.pointer (some ⟨B5,0,none⟩),.pointer (some ⟨B6,0,none⟩)] w' fun e w'' => e = .returned (.int .i64 v0)∧Below w'.heap.size w' w'':=fun w' hb' => by
     have:=leading_any q m d k N (pcM Y) B5 B6 w' H2.out.len (by rw [H2.out.len];have:=HLY.out;omega) (by omega) ((H2.out.has.below hb).below hb') hk (pcM_in Y) hy9 ((hb'.cell (p:=⟨B5,0,none⟩) (Lib.lt_of_cell (zA k5))).trans (zA k5)) ((hb'.cell (p:=⟨B6,0,none⟩) (Lib.lt_of_cell (zA k6))).trans (zA k6))
     rwa [hv0] at this
   have LXC:=Lib.hid lx
   have LYC:=Lib.hid ly
   have HNUM:Hid (0 < H∧u0*H≤X∧(X:Int)≤(u0+1)*H∧v0*H≤Y∧(Y:Int)≤(v0+1)*H):=Lib.hid ⟨hH,hf1,hf2,hf3,hf4⟩
   clear lx ly hu0 hv0 hH hf1 hf2 hf3 hf4 hy9
   have hps:=Int.pow_succ (10:Int) k
   obtain ⟨sc,hsc⟩:∃ sc,(10:Int) ^ k=sc:=⟨_,rfl⟩
   rw [hsc] at k6 hx9 hs1 hs9 hk8 hps
   have c6:wr.cell? ⟨B6,0,none⟩=some (.int .i64 sc):=zA k6
   have f6:wr.frozen? ⟨B6,0,none⟩=false:=zD k6
   obtain ⟨P,hP⟩:∃ P,xt*sc=P:=⟨_,rfl⟩
   have y1:IntKind.i64.wrap ((N:Int)+3 - 1)=(N:Int)+2:=by rw [show (N:Int)+3 - 1=(N:Int)+2 by omega];exact IntWalk.i64_in _ (by omega)
   have y2:IntKind.i64.wrap (xt*sc)=P:=by rw [hP];rw [hP] at hx9;exact IntWalk.i64_in _ (by omega)
   rw [hP] at hx9 hs9 hk8
   have hN2:(N:Int)+2 < (N:Int)+3:=by omega
   have HK4:=Lib.hid k4
   have HK5:=Lib.hid k5
   have HK6:=Lib.hid k6
   have HPS:=Lib.hid hps
   have HSC:=Lib.hid hsc
   have HP:=Lib.hid hP
   clear k4 k5 k6 hps hsc hP K0
   by_cases hlt:P < 100000000
   · have hk7:=hk8 hlt
     clear hk8
     have hPb:decide (P < 100000000)=true:=decide_eq_true hlt
     have y3:IntKind.i64.wrap (sc*10)=sc*10:=IntWalk.i64_in _ (by omega)
     go_wp2
     go_quiet (fail)
     go_wp2
     refine ⟨⟨k+1,by omega,(Below.heap_setCell _ _ _ _ h46).trans HK4.out,(Below.heap_setCell _ _ _ _ h56).trans HK5.out,by rw [HPS.out];exact one_set HK6.out,by rw [HPS.out,← Int.mul_assoc,HP.out];omega,(Below.drews hb _).setCell h6w _⟩,?_⟩
     rw [HMV.out _ _ (zA (one_set (w:=wr.drewN _) HK6.out)),HMV.out wr sc c6]
     omega
   · clear hk8
     have hPb:decide (P < 100000000)=false:=decide_eq_false hlt
     go_wp2
     go_quiet (fail)
     have hq:=Below.drews (Below.refl wr.heap.size wr) nq
     go_upto_region 7 with (go_at_call 208;first | (with_reducible refine (chain hq (LXC.out _ hq)).mono ?_;clear hq;rintro e w5 ⟨rfl,hq⟩) | (with_reducible refine (chain hq (LYC.out _ hq)).mono ?_;clear hq;rintro e w6 ⟨rfl,hq⟩))
     have hw4:w.heap.size < w6.heap.size:=by have h1:=hq.size;have h2:=hb.size;have h3:=Lib.lt_of_cell c6;change B6 < wr.heap.size at h3;omega
     have k4:w6.heap[w.heap.size]? = some (Obj.cells #[Value.int .i64 0,Value.int .i64 0,Value.int .i64 0,Value.int .i64 0] 217 (0,0)):=(hq.block _ (by have h3:=Lib.lt_of_cell c6;change B6 < wr.heap.size at h3;omega)).trans HK4.out
     have hb6:Below w.heap.size w w6:=hb.trans (hq.mono hb.size)
     have K4:=Lib.hid k4
     have HB6:=Lib.hid hb6
     clear k4 hb6 hq hPb hlt hs9 hs1 hx9 y1 y2 cx c5 c6 f6 HK4 HK5 HK6 HPS HSC HP LXC LYC hb hk hct hxt hxt1 HXTE HMV
     go_upto_block 2 with fail
     obtain ⟨B10,hB10⟩:∃ B10,w6.heap.size=B10:=⟨_,rfl⟩
     obtain ⟨W7,hW7⟩:∃ W7,w6.alloc (Obj.cells #[Value.int .i64 1,Value.int .i64 0,Value.int .i64 0,Value.int .i64 1] 217)=W7:=⟨_,rfl⟩
     have k10:W7.heap[B10]? = some (Obj.cells #[Value.int .i64 1,Value.int .i64 0,Value.int .i64 0,Value.int .i64 1] 217 (0,0)):=by rw [← hW7,← hB10];exact World.alloc_heap_new w6 _
     have k47:W7.heap[w.heap.size]? = some (Obj.cells #[Value.int .i64 0,Value.int .i64 0,Value.int .i64 0,Value.int .i64 0] 217 (0,0)):=by rw [← hW7,Below.heap_alloc _ _ _ hw4];exact K4.out
     have hb7:Below w.heap.size w W7:=by rw [← hW7];exact HB6.out.alloc HB6.out.size _
     rw [hW7,hB10]
     have hBw:w.heap.size < B10:=by omega
     have hBne:w.heap.size≠B10:=by omega
     have K10:=Lib.hid k10
     have K47:=Lib.hid k47
     have HB7:=Lib.hid hb7
     clear k10 k47 hb7 hW7 hB10 hw4 K4 HB6
     go_cut [8] (fun _ wx=>∃ a b c' d':Int,LeadOut X Y a b c' d'∧wx.heap[w.heap.size]? = some (Obj.cells #[Value.int .i64 0,Value.int .i64 0,Value.int .i64 0,Value.int .i64 0] 217 (0,0))∧wx.heap[B10]? = some (Obj.cells #[Value.int .i64 a,Value.int .i64 b,Value.int .i64 c',Value.int .i64 d'] 217 (0,0))∧Below w.heap.size w wx)
     case first =>
       go_wp2
       go_loopw [8,9] (fun uv vv wr=>∃ a b c' d' u v:Int,uv = .int .i64 u∧vv = .int .i64 v∧LehAt (X:Int) (Y:Int) H u0 v0 a b c' d' u v∧wr.heap[w.heap.size]? = some (Obj.cells #[Value.int .i64 0,Value.int .i64 0,Value.int .i64 0,Value.int .i64 0] 217 (0,0))∧wr.heap[B10]? = some (Obj.cells #[Value.int .i64 a,Value.int .i64 b,Value.int .i64 c',Value.int .i64 d'] 217 (0,0))∧Below w.heap.size w wr) (fun _ vv _=>(intOf vv).toNat)
       case atStart=>exact ⟨1,0,0,1,u0,v0,rfl,rfl,LehAt.start (Int.ofNat_le.2 hYX) (by omega) hvu hv00,K47.out,K10.out,HB7.out⟩
       case round =>
         obtain ⟨a,b,c',d',u,v,rfl,rfl,hL,k4,kk,hb⟩:=hrel
         have ab:=hL.ab
         have bb:=hL.bb
         have cb:=hL.cb
         have db:=hL.db
         have lv0:=hL.v0'
         have luv:=hL.uv
         have luu:=hL.uu
         have lvc:=hL.vc
         have lvd:=hL.vd
         have lua:=hL.ua
         have lub:=hL.ub
         have HL:=Lib.hid hL
         have e0:wr.cell? ⟨B10,0,none⟩=some (.int .i64 a):=zA kk
         have e1:wr.cell? ⟨B10,1,none⟩=some (.int .i64 b):=zA kk
         have e2:wr.cell? ⟨B10,2,none⟩=some (.int .i64 c'):=zA kk
         have e3:wr.cell? ⟨B10,3,none⟩=some (.int .i64 d'):=zA kk
         have f0:wr.frozen? ⟨B10,0,none⟩=false:=zD kk
         have f1:wr.frozen? ⟨B10,1,none⟩=false:=zD kk
         have f2:wr.frozen? ⟨B10,2,none⟩=false:=zD kk
         have f3:wr.frozen? ⟨B10,3,none⟩=false:=zD kk
         have KK:=Lib.hid kk
         have KK4:=Lib.hid k4
         obtain ⟨va,hva⟩:∃ z,v+c'=z:=⟨_,rfl⟩
         obtain ⟨vb,hvb⟩:∃ z,v+d'=z:=⟨_,rfl⟩
         obtain ⟨ua,hua⟩:∃ z,u+a=z:=⟨_,rfl⟩
         obtain ⟨ub,hub⟩:∃ z,u+b=z:=⟨_,rfl⟩
         have y1:IntKind.i64.wrap (v+c')=va:=by rw [hva];exact IntWalk.i64_in _ (by omega)
         have y2:IntKind.i64.wrap (v+d')=vb:=by rw [hvb];exact IntWalk.i64_in _ (by omega)
         have y3:IntKind.i64.wrap (u+a)=ua:=by rw [hua];exact IntWalk.i64_in _ (by omega)
         have y4:IntKind.i64.wrap (u+b)=ub:=by rw [hub];exact IntWalk.i64_in _ (by omega)
         rw [hva] at lvc
         rw [hvb] at lvd
         rw [hua] at lua
         rw [hub] at lub
         have ua9:ua≤1000000001000000000:=by omega
         have ub9:ub≤1000000001000000000:=by omega
         clear hL kk k4 K10 K47 HB7
         by_cases hz1:va=0
         · have hzb:(va == 0)=true:=by rw [beq_iff_eq];exact hz1
           have hzn:(va != 0)=false:=by rw [bne,hzb];rfl
           go_wp2
           go_meet
           exact ⟨a,b,c',d',HL.out.out,KK4.out,KK.out,hb⟩
         · have hzb:(va == 0)=false:=by rw [beq_eq_false_iff_ne];exact hz1
           have hzn:(va != 0)=true:=by rw [bne,hzb];rfl
           by_cases hz2:vb=0
           · have hzc:(vb == 0)=true:=by rw [beq_iff_eq];exact hz2
             have hzm:(vb != 0)=false:=by rw [bne,hzc];rfl
             go_wp2
             go_meet
             exact ⟨a,b,c',d',HL.out.out,KK4.out,KK.out,hb⟩
           · have hzc:(vb == 0)=false:=by rw [beq_eq_false_iff_ne];exact hz2
             have hzm:(vb != 0)=true:=by rw [bne,hzc];rfl
             obtain ⟨t1,q10,q11⟩:=ediv_pos_facts lua (show 0 < va by omega)
             obtain ⟨t2,q20,q21⟩:=ediv_pos_facts lub (show 0 < vb by omega)
             obtain ⟨q1,hq1⟩:∃ q,ua / va=q:=⟨_,rfl⟩
             obtain ⟨q2,hq2⟩:∃ q,ub / vb=q:=⟨_,rfl⟩
             rw [hq1] at t1 q10 q11
             rw [hq2] at t2 q20 q21
             by_cases hqq:q1=q2
             · subst hqq
               have hnx:=HL.out.next (q:=q1) HNUM.out.1 HNUM.out.2.1 HNUM.out.2.2.1 HNUM.out.2.2.2.1 HNUM.out.2.2.2.2 hu9 hvu (Int.ofNat_le.2 hYX) (by omega) (by omega) (by rw [hua,hva];exact hq1) (by rw [hub,hvb];exact hq2)
               obtain ⟨hqa,_,hnl,hlt⟩:=hnx
               have ncb:=hnl.cb
               have ndb:=hnl.db
               have nv0:=hnl.v0'
               obtain ⟨qc,hqc⟩:∃ z,q1*c'=z:=⟨_,rfl⟩
               obtain ⟨qd,hqd⟩:∃ z,q1*d'=z:=⟨_,rfl⟩
               obtain ⟨qv,hqv⟩:∃ z,q1*v=z:=⟨_,rfl⟩
               have y5:IntKind.i64.wrap (q1*c')=qc:=by rw [hqc];rw [hqc] at ncb;exact IntWalk.i64_in _ (by omega)
               have y6:IntKind.i64.wrap (q1*d')=qd:=by rw [hqd];rw [hqd] at ndb;exact IntWalk.i64_in _ (by omega)
               have hqv0:0≤q1*v:=Int.mul_nonneg q10 lv0
               have y7:IntKind.i64.wrap (q1*v)=qv:=by rw [hqv];rw [hqv] at nv0 hqv0;exact IntWalk.i64_in _ (by omega)
               rw [hqc] at ncb hnl
               rw [hqd] at ndb hnl
               rw [hqv] at nv0 hnl hlt hqv0
               obtain ⟨c2,hc2⟩:∃ z,a - qc=z:=⟨_,rfl⟩
               obtain ⟨d2,hd2⟩:∃ z,b - qd=z:=⟨_,rfl⟩
               obtain ⟨v2,hv2⟩:∃ z,u - qv=z:=⟨_,rfl⟩
               have y8:IntKind.i64.wrap (a - qc)=c2:=by rw [hc2];rw [hc2] at ncb;exact IntWalk.i64_in _ (by omega)
               have y9:IntKind.i64.wrap (b - qd)=d2:=by rw [hd2];rw [hd2] at ndb;exact IntWalk.i64_in _ (by omega)
               have y10:IntKind.i64.wrap (u - qv)=v2:=by rw [hv2];rw [hv2] at nv0 hlt;exact IntWalk.i64_in _ (by omega)
               rw [hc2,hd2,hv2] at hnl
               rw [hv2] at hlt nv0
               have HNL:=Lib.hid hnl
               have HLT:=Lib.hid hlt
               have HV2:=Lib.hid nv0
               have hqb:(q1 == q1)=true:=by simp
               have hqn:(q1 != q1)=false:=by rw [bne,hqb];rfl
               clear hnl hlt nv0 ncb ndb hqc hqd hqv hc2 hd2 hv2 hq1 hq2 hua hub hva hvb q10 q20 hqv0
               go_wp2
               exact ⟨⟨c',d',c2,d2,v,v2,rfl,rfl,HNL.out,(steps_other _ _ _ _ _ _ _ hBne).trans KK4.out,steps_set KK.out,steps_below hb (Nat.le_of_lt hBw)⟩,by simp [intOf];have:=HLT.out;have:=HV2.out;omega⟩
             · have hqb:(q1 == q2)=false:=by rw [beq_eq_false_iff_ne];exact hqq
               have hqn:(q1 != q2)=true:=by rw [bne,hqb];rfl
               clear hq1 hq2 hua hub hva hvb
               go_wp2
               go_meet
               exact ⟨a,b,c',d',HL.out.out,KK4.out,KK.out,hb⟩
     case rest =>
       obtain ⟨a,b,c',d',hLO,k4,kk,hb⟩:=hcut
       have e0:wc.cell? ⟨B10,0,none⟩=some (.int .i64 a):=zA kk
       have e1:wc.cell? ⟨B10,1,none⟩=some (.int .i64 b):=zA kk
       have e2:wc.cell? ⟨B10,2,none⟩=some (.int .i64 c'):=zA kk
       have e3:wc.cell? ⟨B10,3,none⟩=some (.int .i64 d'):=zA kk
       have z0:wc.cell? ⟨w.heap.size,0,none⟩=some (.int .i64 0):=zA k4
       have z1:wc.cell? ⟨w.heap.size,1,none⟩=some (.int .i64 0):=zA k4
       have z2:wc.cell? ⟨w.heap.size,2,none⟩=some (.int .i64 0):=zA k4
       have z3:wc.cell? ⟨w.heap.size,3,none⟩=some (.int .i64 0):=zA k4
       have f0:wc.frozen? ⟨w.heap.size,0,none⟩=false:=zD k4
       have f1:wc.frozen? ⟨w.heap.size,1,none⟩=false:=zD k4
       have f2:wc.frozen? ⟨w.heap.size,2,none⟩=false:=zD k4
       have f3:wc.frozen? ⟨w.heap.size,3,none⟩=false:=zD k4
       have hks:=steps_set (v0:=.int .i64 a) (v1:=.int .i64 b) (v2:=.int .i64 c') (v3:=.int .i64 d') k4
       have r0:=zA (i:=0) hks
       have r1:=zA (i:=1) hks
       have r2:=zA (i:=2) hks
       have r3:=zA (i:=3) hks
       have HLO:=Lib.hid hLO
       clear hLO k4 kk hks K10 K47 HB7
       go_wp2
       refine bodyPost_ret (v:=.agg #[.int .i64 a,.int .i64 b,.int .i64 c',.int .i64 d']) (by simp [results,Tryz.results175,go_sem,z0,z1,z2,z3]) rfl ⟨a,b,c',d',rfl,HLO.out,steps_below hb (Nat.le_refl _)⟩
theorem gcd_step (X Y:Nat):Nat.gcd Y (X % Y)=Nat.gcd X Y:=by rw [Nat.gcd_comm X Y,Nat.gcd_comm Y (X % Y),← Nat.gcd_rec]
theorem trim_two (g:Nat) (h:g < 1000000000000000000):trimP [((g % 1000000000:Nat):Int),((g / 1000000000:Nat):Int)]=pcM g:=by
 refine trim_pcM_of (fun x hx=>?_) g ?_
 · rcases List.mem_cons.1 hx with rfl | hx
   · omega
   · obtain rfl:x=((g / 1000000000:Nat):Int):=by simpa using hx
     omega
 · show ((g % 1000000000:Nat):Int)+1000000000*(((g / 1000000000:Nat):Int)+1000000000*0)=g
   omega
theorem pcM_lt18 {Y:Nat} (h:(pcM Y).length≤2):Y < 1000000000000000000:=by
 have h1:=pcM_lt Y
 have h2:1000000000 ^ (pcM Y).length≤1000000000 ^ 2:=Nat.pow_le_pow_right (by decide) h
 exact Nat.lt_of_lt_of_le h1 h2
structure GcdAt (w wr:World) (p q:Option Addr) (n c m d X Y g:Nat):Prop where
 sx:Sm wr p n c X
 sy:Sm wr q m d Y
 le:Y≤X
 gc:Nat.gcd X Y=g
 len:(pcM X).length≤80000
 bel:Below w.heap.size w wr
theorem gcd_loop {p q:Option Addr} {n c m d X Y:Nat} {w:World} (h1:Sm w p n c X) (h2:Sm w q m d Y) (hX:(pcM X).length≤80000) (hY:(pcM Y).length≤80000) :
   Calls Tryz.prog 138 #[.slice p n c,.slice q m d] w (RetP w (pcM (Nat.gcd X Y))):=by
 obtain ⟨mv,hmv⟩:∃ mv:Value→World→Nat,∀ w p n c X,Sm w p n c X→mv (.slice p n c) w=X:=
   ⟨fun v w=>Classical.epsilon (fun g:Nat=>∃ p' n' c',v=Value.slice p' n' c'∧Sm w p' n' c' g),fun _ _ _ _ _ h=>sm_val h⟩
 have HMV:=Lib.hid hmv
 have H1:=Lib.hid h1
 have H2:=Lib.hid h2
 obtain ⟨g,hg⟩:∃ g,Nat.gcd X Y=g:=⟨_,rfl⟩
 rw [hg]
 by_cases hlt:X < Y
 · have c1 := pcmp_sm h1 h2 (by omega) (by omega)
   rw [cI_lt (by omega)] at c1
   have C1:=Lib.hid c1
   have hst0:∀ w1,Below w.heap.size w w1→GcdAt w w1 q p m d n c Y X g:=fun w1 hb=>⟨h2.below hb,h1.below hb,by omega,by rw [Nat.gcd_comm];exact hg,hY,hb⟩
   have HST:=Lib.hid hst0
   clear hst0 c1 h1 h2 hX hY hg hmv hlt
   go_enter Tryz.func138,Tryz.ntmps138
   go_wp2_with (go_at_call 165;refine C1.out.mono ?_;rintro e w1 ⟨rfl,hb⟩)
   have hst:=HST.out _ hb
   clear C1 HST hb
   go_loopw [0,1] (fun xv yv wr=>∃ (p:Option Addr) (n c:Nat) (q:Option Addr) (m d X' Y':Nat),xv = .slice p n c∧yv = .slice q m d∧Hid (GcdAt w wr p q n c m d X' Y' g)) (fun _ yv wr=>mv yv wr)
   case atStart=>exact ⟨_,_,_,_,_,_,_,_,rfl,rfl,Lib.hid hst⟩
   case round =>
     clear hst
     obtain ⟨p,n,c,q,m,d,X',Y',rfl,rfl,HS⟩:=hrel
     have hv:=HMV.out _ _ _ _ _ HS.out.sy
     have HV:=Lib.hid hv
     have hlY:(pcM Y').length≤(pcM X').length:=pcM_len_mono HS.out.le
     have hlX:=HS.out.len
     have hml:=HS.out.sy.len
     have hnl:=HS.out.sx.len
     have hm9:m≤80000:=by omega
     have LX:Hid ((pcM X').length≤90000):=Lib.hid (by omega)
     have LY:Hid ((pcM Y').length≤90000):=Lib.hid (by omega)
     clear hv
     by_cases hm:2 < m
     · have hmi:(2:Int) < (m:Int):=by omega
       have hY0:Y'≠0:=fun e=>by rw [hml,e,pcM_zero] at hm;simp at hm
       obtain ⟨N,rfl⟩:∃ N,n=N+3:=⟨n - 3,by omega⟩
       have cl:=lead_sm HS.out.sx HS.out.sy HS.out.le (by omega)
       have CL:=Lib.hid cl
       clear cl hlY hlX hml hnl
       go_upto_region 5 with (go_at_call 175;refine CL.out.mono ?_;rintro e w5 ⟨a,b,c',d',rfl,hLO,hb5⟩;refine Hid.out ?_)
       refine Lib.hid ?_
       go_upto_region 5 with fail
       obtain ⟨W6,hW6⟩:∃ W6,w5.alloc (Obj.cells #[Value.int .i64 a,Value.int .i64 b,Value.int .i64 c',Value.int .i64 d'] 217)=W6:=⟨_,rfl⟩
       have kk:W6.heap[w5.heap.size]? = some (Obj.cells #[Value.int .i64 a,Value.int .i64 b,Value.int .i64 c',Value.int .i64 d'] 217 (0,0)):=by rw [← hW6];exact World.alloc_heap_new w5 _
       have hs6:w5.heap.size < W6.heap.size:=by rw [← hW6];simp
       have hb6:Below wr.heap.size wr W6:=by rw [← hW6];exact hb5.alloc hb5.size _
       obtain ⟨BB,hBB⟩:∃ BB,w5.heap.size=BB:=⟨_,rfl⟩
       rw [hW6,hBB]
       rw [hBB] at kk hs6
       have e0:W6.cell? ⟨BB,0,none⟩=some (.int .i64 a):=zA kk
       have e1:W6.cell? ⟨BB,1,none⟩=some (.int .i64 b):=zA kk
       have e2:W6.cell? ⟨BB,2,none⟩=some (.int .i64 c'):=zA kk
       have e3:W6.cell? ⟨BB,3,none⟩=some (.int .i64 d'):=zA kk
       have SX:=Lib.hid (HS.out.sx.below hb6)
       have SY:=Lib.hid (HS.out.sy.below hb6)
       have HBW:=Lib.hid (HS.out.bel.trans (hb6.mono HS.out.bel.size))
       clear hW6 hBB kk hb5 hb6 CL
       rcases hLO with rfl | ⟨hbne,⟨ha0,ha1⟩,⟨hb0,hb1⟩,⟨hc0,hc1⟩,⟨hd0,hd1⟩,X2,Y2,eX,eY,h21,h22,h23,hgc⟩
       · have hbb:((0:Int) == 0)=true:=rfl
         go_wp2_with (go_at_call 161;refine (divide_sm SX.out SY.out LX.out LY.out hY0).mono ?_;rintro e w7 ⟨p7,n7,c7,p8,n8,c8,rfl,hs7,hs8,hb7⟩;refine Hid.out ?_)
         refine Lib.hid ?_
         have hnew:GcdAt w w7 q p8 m d n8 c8 Y' (X' % Y') g:=⟨SY.out.below hb7,hs8,Nat.le_of_lt (Nat.mod_lt _ (Nat.pos_of_ne_zero hY0)),by rw [gcd_step];exact HS.out.gc,Nat.le_trans (pcM_len_mono HS.out.le) HS.out.len,HBW.out.trans (hb7.mono HBW.out.size)⟩
         have HN:=Lib.hid hnew
         have hml:=Nat.mod_lt X' (Nat.pos_of_ne_zero hY0)
         have hvn:=HMV.out _ _ _ _ _ hs8
         have HVN:=Lib.hid hvn
         have HML:=Lib.hid hml
         clear hnew hs7 hs8 hb7 hvn hml
         go_wp2
         exact ⟨⟨_,_,_,_,_,_,Y',X' % Y',rfl,rfl,HN⟩,by rw [HVN.out,HV.out];exact HML.out⟩
       · have hbb:(b == 0)=false:=by rw [beq_eq_false_iff_ne];exact hbne
         have l1:X2 < 1000000000 ^ (max (pcM X').length (pcM Y').length+1):=by
           refine Nat.lt_of_le_of_lt h23 (Nat.lt_of_lt_of_le (pcM_lt X') (Nat.pow_le_pow_right (by decide) ?_))
           exact Nat.le_trans (Nat.le_max_left _ _) (Nat.le_succ _)
         have l2:=Nat.lt_of_le_of_lt h21 l1
         have cm1:∀ w,Sm w p (N+3) c X'→Sm w q m d Y'→Calls Tryz.prog 176 #[.slice p (N+3) c,.int .i64 a,.slice q m d,.int .i64 b] w (RetP w (pcM X2)):=fun w h1 h2=>combine_sm h1 h2 (Nat.le_trans LX.out (by decide)) (Nat.le_trans LY.out (by decide)) a b ha0 ha1 hb0 hb1 X2 eX l1
         have cm2:∀ w,Sm w p (N+3) c X'→Sm w q m d Y'→Calls Tryz.prog 176 #[.slice p (N+3) c,.int .i64 c',.slice q m d,.int .i64 d'] w (RetP w (pcM Y2)):=fun w h1 h2=>combine_sm h1 h2 (Nat.le_trans LX.out (by decide)) (Nat.le_trans LY.out (by decide)) c' d' hc0 hc1 hd0 hd1 Y2 eY l2
         have CM1:=Lib.hid cm1
         have CM2:=Lib.hid cm2
         have HGC:=Lib.hid (hgc.trans HS.out.gc)
         have H21:=Lib.hid h21
         have H22:=Lib.hid h22
         have H2L:Hid ((pcM X2).length≤80000):=Lib.hid (Nat.le_trans (pcM_len_mono h23) HS.out.len)
         clear cm1 cm2 hgc h21 h22 h23 l1 l2 eX eY ha0 ha1 hb0 hb1 hc0 hc1 hd0 hd1
         go_upto_region 8 with fail
         go_region_held3 (fun w' => w'.cell? ⟨BB,0,none⟩=some (.int .i64 a)∧w'.cell? ⟨BB,1,none⟩=some (.int .i64 b)∧w'.cell? ⟨BB,2,none⟩=some (.int .i64 c')∧w'.cell? ⟨BB,3,none⟩=some (.int .i64 d'))
           (first | go_keep | exact ⟨g0,g1,g2,g3⟩ | exact ⟨i0,i1,i2,i3⟩)
           (first | (go_at_call 176;(with_reducible refine (CM1.out W6.drew (SX.out.below (Below.refl _ _).drew) (SY.out.below (Below.refl _ _).drew)).mono ?_);rintro e w7 ⟨p7,n7,c7,rfl,hr7⟩;have hb7:=(Below.refl W6.heap.size W6).drew.trans hr7.2.2.2.2.2;have HR7:=Lib.hid hr7;have HB7:=Lib.hid hb7;have g0:=(hb7.cell (p:=⟨BB,0,none⟩) hs6).trans e0;have g1:=(hb7.cell (p:=⟨BB,1,none⟩) hs6).trans e1;have g2:=(hb7.cell (p:=⟨BB,2,none⟩) hs6).trans e2;have g3:=(hb7.cell (p:=⟨BB,3,none⟩) hs6).trans e3;clear hr7 hb7) | (go_at_call 176;(with_reducible refine (CM2.out w7 (SX.out.below HB7.out) (SY.out.below HB7.out)).mono ?_);rintro e w8 ⟨p8,n8,c8,rfl,hr8⟩;have hb8:=HB7.out.trans (hr8.2.2.2.2.2.mono HB7.out.size);have HR8:=Lib.hid hr8;have HB8:=Lib.hid hb8;have i0:=(hb8.cell (p:=⟨BB,0,none⟩) hs6).trans e0;have i1:=(hb8.cell (p:=⟨BB,1,none⟩) hs6).trans e1;have i2:=(hb8.cell (p:=⟨BB,2,none⟩) hs6).trans e2;have i3:=(hb8.cell (p:=⟨BB,3,none⟩) hs6).trans e3;clear hr8 hb8))
         have hsx2:Sm w8 p7 n7 c7 X2:=Sm.below (w:=w7) ⟨HR7.out.1,HR7.out.2.1,HR7.out.2.2.1,HR7.out.2.2.2.1,HR7.out.2.2.2.2.1⟩ HR8.out.2.2.2.2.2
         have hsy2:Sm w8 p8 n8 c8 Y2:=⟨HR8.out.1,HR8.out.2.1,HR8.out.2.2.1,HR8.out.2.2.2.1,HR8.out.2.2.2.2.1⟩
         have hnew:GcdAt w w8 p7 p8 n7 c7 n8 c8 X2 Y2 g:=⟨hsx2,hsy2,H21.out,HGC.out,H2L.out,HBW.out.trans (HB8.out.mono HBW.out.size)⟩
         have HN:=Lib.hid hnew
         have hvn:=HMV.out _ _ _ _ _ hsy2
         have HVN:=Lib.hid hvn
         clear hnew hsx2 hsy2 hvn
         go_wp2
         exact ⟨⟨_,_,_,_,_,_,X2,Y2,rfl,rfl,HN⟩,by rw [HVN.out,HV.out];exact H22.out⟩
     · have hmi:¬ (2:Int) < (m:Int):=by omega
       by_cases hm0:m=0
       · subst hm0
         have hY0:Y'=0:=pcM_nil hml.symm
         have hgX:X'=g:=by have:=HS.out.gc;rw [hY0,Nat.gcd_zero_right] at this;exact this
         have HGX:=Lib.hid hgX
         clear hgX hY0 hml hnl hlX hlY
         go_wp2
         go_ret
         have h9:=HS.out.sx
         exact ⟨p,n,c,rfl,by rw [← HGX.out];exact h9.len,h9.cap,h9.top,h9.nil,by rw [← HGX.out];exact h9.has,HS.out.bel⟩
       · have hY0:Y'≠0:=fun e=>hm0 (by rw [hml,e,pcM_zero];rfl)
         have hm0b:((m:Int) == 0)=false:=by rw [beq_eq_false_iff_ne];omega
         have hlY2:(pcM Y').length≤2:=by omega
         have hrl:(pcM (X' % Y')).length≤2:=Nat.le_trans (pcM_len_mono (Nat.le_of_lt (Nat.mod_lt X' (Nat.pos_of_ne_zero hY0)))) hlY2
         have hy18:=pcM_lt18 hlY2
         have hr18:=pcM_lt18 hrl
         have hgg:Nat.gcd Y' (X' % Y')=g:=by rw [gcd_step];exact HS.out.gc
         have hg18:g < 1000000000000000000:=by
           rw [← hgg];exact Nat.lt_of_le_of_lt (Nat.gcd_le_left _ (Nat.pos_of_ne_zero hY0)) hy18
         have cg:∀ w,Calls Tryz.prog 137 #[.int .i64 Y',.int .i64 ((X' % Y':Nat):Int)] w (Ret w (.int .i64 g)):=fun w=>by
           have:=gcdInts_any Y' (X' % Y') w hy18 hr18
           rwa [hgg] at this
         have t1:(g:Int).tmod 1000000000=((g % 1000000000:Nat):Int):=by rw [Int.tmod_eq_emod_of_nonneg (by omega)];rfl
         have t2:(g:Int).tdiv 1000000000=((g / 1000000000:Nat):Int):=by rw [Int.tdiv_eq_ediv_of_nonneg (by omega)];rfl
         have htw:=trim_two g hg18
         obtain ⟨g1,hg1⟩:∃ g1,g % 1000000000=g1:=⟨_,rfl⟩
         obtain ⟨g2,hg2⟩:∃ g2,g / 1000000000=g2:=⟨_,rfl⟩
         have hg1b:g1 < 1000000000:=by omega
         have hg2b:g2 < 1000000000:=by omega
         rw [hg1] at t1 htw
         rw [hg2] at t2 htw
         have CG:=Lib.hid cg
         have HTW:=Lib.hid htw
         have HRL:=Lib.hid hrl
         have HYL:=Lib.hid hlY2
         have HG18:=Lib.hid hg18
         have hgi:(g:Int) < 1000000000000000000:=by omega
         clear cg htw hrl hlY2 hgg hy18 hr18 hg1 hg2 hml hnl hlX hlY hg18
         go_wp2_with (first | (go_at_call 161;refine (divide_sm HS.out.sx HS.out.sy LX.out LY.out hY0).mono ?_;rintro e w7 ⟨p7,n7,c7,p8,n8,c8,rfl,hs7,hs8,hb7⟩;have HS8:=Lib.hid hs8;have HSY:=Lib.hid (HS.out.sy.below hb7);have hbq:=HS.out.bel.trans (hb7.mono HS.out.bel.size);clear hs7 hs8 hb7) | (go_at_call 177;first | (with_reducible refine (value_sm HSY.out HYL.out).mono ?_;rintro e w8 ⟨rfl,rfl⟩) | (with_reducible refine (value_sm HS8.out HRL.out).mono ?_;rintro e w8 ⟨rfl,rfl⟩)) | (go_at_call 137;refine (chain hbq (CG.out _)).mono ?_;clear hbq;rintro e w9 ⟨rfl,hbq⟩;refine Hid.out ?_))
         refine Lib.hid ?_
         have hh:Has (w9.alloc (.cells #[.int .i64 g1,.int .i64 g2] 3)) (some ⟨w9.heap.size,0,none⟩) [(g1:Int),(g2:Int)]:=by
           refine Or.inr ⟨w9.heap.size,0,rfl,by simp,fun i hi=>?_⟩
           rw [World.cell?_alloc_new]
           rcases i with _ | _ | i
           · rfl
           · rfl
           · simp at hi;omega
         have ht:=trim_any (some ⟨w9.heap.size,0,none⟩) 2 2 [(g1:Int),(g2:Int)] _ rfl (Nat.le_refl _) (by omega) (fun h=>by cases h) hh
         rw [HTW.out] at ht
         have HT:=Lib.hid ht
         have HBA:=Lib.hid (hbq.alloc hbq.size (.cells #[.int .i64 g1,.int .i64 g2] 3))
         clear hh ht hbq
         go_wp2_with (go_at_call 178;refine HT.out.mono ?_;rintro e wz ⟨p3,n3,c3,rfl,hr3⟩;have HR3:=Lib.hid hr3;clear hr3)
         go_ret
         exact RetP.behind HBA.out (⟨p3,n3,c3,rfl,HR3.out⟩:RetP _ _ (.returned (.slice p3 n3 c3)) wz)
 · have c1 := pcmp_sm h1 h2 (by omega) (by omega)
   obtain ⟨z,hz⟩:∃ z,Lib.compareInt X Y=z:=⟨_,rfl⟩
   have hz0:¬ z < 0:=by
     rw [← hz]
     rcases Nat.lt_or_eq_of_le (show Y≤X by omega) with h | h
     · rw [cI_gt (by omega)];decide
     · rw [cI_eq (by omega)];decide
   rw [hz] at c1
   have C1:=Lib.hid c1
   have hst0:∀ w1,Below w.heap.size w w1→GcdAt w w1 p q n c m d X Y g:=fun w1 hb=>⟨h1.below hb,h2.below hb,by omega,hg,hX,hb⟩
   have HST:=Lib.hid hst0
   clear hst0 c1 h1 h2 hX hY hg hmv hlt hz
   go_enter Tryz.func138,Tryz.ntmps138
   go_wp2_with (go_at_call 165;refine C1.out.mono ?_;rintro e w1 ⟨rfl,hb⟩)
   have hst:=HST.out _ hb
   clear C1 HST hb
   go_loopw [0,1] (fun xv yv wr=>∃ (p:Option Addr) (n c:Nat) (q:Option Addr) (m d X' Y':Nat),xv = .slice p n c∧yv = .slice q m d∧Hid (GcdAt w wr p q n c m d X' Y' g)) (fun _ yv wr=>mv yv wr)
   case atStart=>exact ⟨_,_,_,_,_,_,_,_,rfl,rfl,Lib.hid hst⟩
   case round =>
     clear hst
     obtain ⟨p,n,c,q,m,d,X',Y',rfl,rfl,HS⟩:=hrel
     have hv:=HMV.out _ _ _ _ _ HS.out.sy
     have HV:=Lib.hid hv
     have hlY:(pcM Y').length≤(pcM X').length:=pcM_len_mono HS.out.le
     have hlX:=HS.out.len
     have hml:=HS.out.sy.len
     have hnl:=HS.out.sx.len
     have hm9:m≤80000:=by omega
     have LX:Hid ((pcM X').length≤90000):=Lib.hid (by omega)
     have LY:Hid ((pcM Y').length≤90000):=Lib.hid (by omega)
     clear hv
     by_cases hm:2 < m
     · have hmi:(2:Int) < (m:Int):=by omega
       have hY0:Y'≠0:=fun e=>by rw [hml,e,pcM_zero] at hm;simp at hm
       obtain ⟨N,rfl⟩:∃ N,n=N+3:=⟨n - 3,by omega⟩
       have cl:=lead_sm HS.out.sx HS.out.sy HS.out.le (by omega)
       have CL:=Lib.hid cl
       clear cl hlY hlX hml hnl
       go_upto_region 5 with (go_at_call 175;refine CL.out.mono ?_;rintro e w5 ⟨a,b,c',d',rfl,hLO,hb5⟩;refine Hid.out ?_)
       refine Lib.hid ?_
       go_upto_region 5 with fail
       obtain ⟨W6,hW6⟩:∃ W6,w5.alloc (Obj.cells #[Value.int .i64 a,Value.int .i64 b,Value.int .i64 c',Value.int .i64 d'] 217)=W6:=⟨_,rfl⟩
       have kk:W6.heap[w5.heap.size]? = some (Obj.cells #[Value.int .i64 a,Value.int .i64 b,Value.int .i64 c',Value.int .i64 d'] 217 (0,0)):=by rw [← hW6];exact World.alloc_heap_new w5 _
       have hs6:w5.heap.size < W6.heap.size:=by rw [← hW6];simp
       have hb6:Below wr.heap.size wr W6:=by rw [← hW6];exact hb5.alloc hb5.size _
       obtain ⟨BB,hBB⟩:∃ BB,w5.heap.size=BB:=⟨_,rfl⟩
       rw [hW6,hBB]
       rw [hBB] at kk hs6
       have e0:W6.cell? ⟨BB,0,none⟩=some (.int .i64 a):=zA kk
       have e1:W6.cell? ⟨BB,1,none⟩=some (.int .i64 b):=zA kk
       have e2:W6.cell? ⟨BB,2,none⟩=some (.int .i64 c'):=zA kk
       have e3:W6.cell? ⟨BB,3,none⟩=some (.int .i64 d'):=zA kk
       have SX:=Lib.hid (HS.out.sx.below hb6)
       have SY:=Lib.hid (HS.out.sy.below hb6)
       have HBW:=Lib.hid (HS.out.bel.trans (hb6.mono HS.out.bel.size))
       clear hW6 hBB kk hb5 hb6 CL
       rcases hLO with rfl | ⟨hbne,⟨ha0,ha1⟩,⟨hb0,hb1⟩,⟨hc0,hc1⟩,⟨hd0,hd1⟩,X2,Y2,eX,eY,h21,h22,h23,hgc⟩
       · have hbb:((0:Int) == 0)=true:=rfl
         go_wp2_with (go_at_call 161;refine (divide_sm SX.out SY.out LX.out LY.out hY0).mono ?_;rintro e w7 ⟨p7,n7,c7,p8,n8,c8,rfl,hs7,hs8,hb7⟩;refine Hid.out ?_)
         refine Lib.hid ?_
         have hnew:GcdAt w w7 q p8 m d n8 c8 Y' (X' % Y') g:=⟨SY.out.below hb7,hs8,Nat.le_of_lt (Nat.mod_lt _ (Nat.pos_of_ne_zero hY0)),by rw [gcd_step];exact HS.out.gc,Nat.le_trans (pcM_len_mono HS.out.le) HS.out.len,HBW.out.trans (hb7.mono HBW.out.size)⟩
         have HN:=Lib.hid hnew
         have hml:=Nat.mod_lt X' (Nat.pos_of_ne_zero hY0)
         have hvn:=HMV.out _ _ _ _ _ hs8
         have HVN:=Lib.hid hvn
         have HML:=Lib.hid hml
         clear hnew hs7 hs8 hb7 hvn hml
         go_wp2
         exact ⟨⟨_,_,_,_,_,_,Y',X' % Y',rfl,rfl,HN⟩,by rw [HVN.out,HV.out];exact HML.out⟩
       · have hbb:(b == 0)=false:=by rw [beq_eq_false_iff_ne];exact hbne
         have l1:X2 < 1000000000 ^ (max (pcM X').length (pcM Y').length+1):=by
           refine Nat.lt_of_le_of_lt h23 (Nat.lt_of_lt_of_le (pcM_lt X') (Nat.pow_le_pow_right (by decide) ?_))
           exact Nat.le_trans (Nat.le_max_left _ _) (Nat.le_succ _)
         have l2:=Nat.lt_of_le_of_lt h21 l1
         have cm1:∀ w,Sm w p (N+3) c X'→Sm w q m d Y'→Calls Tryz.prog 176 #[.slice p (N+3) c,.int .i64 a,.slice q m d,.int .i64 b] w (RetP w (pcM X2)):=fun w h1 h2=>combine_sm h1 h2 (Nat.le_trans LX.out (by decide)) (Nat.le_trans LY.out (by decide)) a b ha0 ha1 hb0 hb1 X2 eX l1
         have cm2:∀ w,Sm w p (N+3) c X'→Sm w q m d Y'→Calls Tryz.prog 176 #[.slice p (N+3) c,.int .i64 c',.slice q m d,.int .i64 d'] w (RetP w (pcM Y2)):=fun w h1 h2=>combine_sm h1 h2 (Nat.le_trans LX.out (by decide)) (Nat.le_trans LY.out (by decide)) c' d' hc0 hc1 hd0 hd1 Y2 eY l2
         have CM1:=Lib.hid cm1
         have CM2:=Lib.hid cm2
         have HGC:=Lib.hid (hgc.trans HS.out.gc)
         have H21:=Lib.hid h21
         have H22:=Lib.hid h22
         have H2L:Hid ((pcM X2).length≤80000):=Lib.hid (Nat.le_trans (pcM_len_mono h23) HS.out.len)
         clear cm1 cm2 hgc h21 h22 h23 l1 l2 eX eY ha0 ha1 hb0 hb1 hc0 hc1 hd0 hd1
         go_upto_region 8 with fail
         go_region_held3 (fun w' => w'.cell? ⟨BB,0,none⟩=some (.int .i64 a)∧w'.cell? ⟨BB,1,none⟩=some (.int .i64 b)∧w'.cell? ⟨BB,2,none⟩=some (.int .i64 c')∧w'.cell? ⟨BB,3,none⟩=some (.int .i64 d'))
           (first | go_keep | exact ⟨g0,g1,g2,g3⟩ | exact ⟨i0,i1,i2,i3⟩)
           (first | (go_at_call 176;(with_reducible refine (CM1.out W6.drew (SX.out.below (Below.refl _ _).drew) (SY.out.below (Below.refl _ _).drew)).mono ?_);rintro e w7 ⟨p7,n7,c7,rfl,hr7⟩;have hb7:=(Below.refl W6.heap.size W6).drew.trans hr7.2.2.2.2.2;have HR7:=Lib.hid hr7;have HB7:=Lib.hid hb7;have g0:=(hb7.cell (p:=⟨BB,0,none⟩) hs6).trans e0;have g1:=(hb7.cell (p:=⟨BB,1,none⟩) hs6).trans e1;have g2:=(hb7.cell (p:=⟨BB,2,none⟩) hs6).trans e2;have g3:=(hb7.cell (p:=⟨BB,3,none⟩) hs6).trans e3;clear hr7 hb7) | (go_at_call 176;(with_reducible refine (CM2.out w7 (SX.out.below HB7.out) (SY.out.below HB7.out)).mono ?_);rintro e w8 ⟨p8,n8,c8,rfl,hr8⟩;have hb8:=HB7.out.trans (hr8.2.2.2.2.2.mono HB7.out.size);have HR8:=Lib.hid hr8;have HB8:=Lib.hid hb8;have i0:=(hb8.cell (p:=⟨BB,0,none⟩) hs6).trans e0;have i1:=(hb8.cell (p:=⟨BB,1,none⟩) hs6).trans e1;have i2:=(hb8.cell (p:=⟨BB,2,none⟩) hs6).trans e2;have i3:=(hb8.cell (p:=⟨BB,3,none⟩) hs6).trans e3;clear hr8 hb8))
         have hsx2:Sm w8 p7 n7 c7 X2:=Sm.below (w:=w7) ⟨HR7.out.1,HR7.out.2.1,HR7.out.2.2.1,HR7.out.2.2.2.1,HR7.out.2.2.2.2.1⟩ HR8.out.2.2.2.2.2
         have hsy2:Sm w8 p8 n8 c8 Y2:=⟨HR8.out.1,HR8.out.2.1,HR8.out.2.2.1,HR8.out.2.2.2.1,HR8.out.2.2.2.2.1⟩
         have hnew:GcdAt w w8 p7 p8 n7 c7 n8 c8 X2 Y2 g:=⟨hsx2,hsy2,H21.out,HGC.out,H2L.out,HBW.out.trans (HB8.out.mono HBW.out.size)⟩
         have HN:=Lib.hid hnew
         have hvn:=HMV.out _ _ _ _ _ hsy2
         have HVN:=Lib.hid hvn
         clear hnew hsx2 hsy2 hvn
         go_wp2
         exact ⟨⟨_,_,_,_,_,_,X2,Y2,rfl,rfl,HN⟩,by rw [HVN.out,HV.out];exact H22.out⟩
     · have hmi:¬ (2:Int) < (m:Int):=by omega
       by_cases hm0:m=0
       · subst hm0
         have hY0:Y'=0:=pcM_nil hml.symm
         have hgX:X'=g:=by have:=HS.out.gc;rw [hY0,Nat.gcd_zero_right] at this;exact this
         have HGX:=Lib.hid hgX
         clear hgX hY0 hml hnl hlX hlY
         go_wp2
         go_ret
         have h9:=HS.out.sx
         exact ⟨p,n,c,rfl,by rw [← HGX.out];exact h9.len,h9.cap,h9.top,h9.nil,by rw [← HGX.out];exact h9.has,HS.out.bel⟩
       · have hY0:Y'≠0:=fun e=>hm0 (by rw [hml,e,pcM_zero];rfl)
         have hm0b:((m:Int) == 0)=false:=by rw [beq_eq_false_iff_ne];omega
         have hlY2:(pcM Y').length≤2:=by omega
         have hrl:(pcM (X' % Y')).length≤2:=Nat.le_trans (pcM_len_mono (Nat.le_of_lt (Nat.mod_lt X' (Nat.pos_of_ne_zero hY0)))) hlY2
         have hy18:=pcM_lt18 hlY2
         have hr18:=pcM_lt18 hrl
         have hgg:Nat.gcd Y' (X' % Y')=g:=by rw [gcd_step];exact HS.out.gc
         have hg18:g < 1000000000000000000:=by
           rw [← hgg];exact Nat.lt_of_le_of_lt (Nat.gcd_le_left _ (Nat.pos_of_ne_zero hY0)) hy18
         have cg:∀ w,Calls Tryz.prog 137 #[.int .i64 Y',.int .i64 ((X' % Y':Nat):Int)] w (Ret w (.int .i64 g)):=fun w=>by
           have:=gcdInts_any Y' (X' % Y') w hy18 hr18
           rwa [hgg] at this
         have t1:(g:Int).tmod 1000000000=((g % 1000000000:Nat):Int):=by rw [Int.tmod_eq_emod_of_nonneg (by omega)];rfl
         have t2:(g:Int).tdiv 1000000000=((g / 1000000000:Nat):Int):=by rw [Int.tdiv_eq_ediv_of_nonneg (by omega)];rfl
         have htw:=trim_two g hg18
         obtain ⟨g1,hg1⟩:∃ g1,g % 1000000000=g1:=⟨_,rfl⟩
         obtain ⟨g2,hg2⟩:∃ g2,g / 1000000000=g2:=⟨_,rfl⟩
         have hg1b:g1 < 1000000000:=by omega
         have hg2b:g2 < 1000000000:=by omega
         rw [hg1] at t1 htw
         rw [hg2] at t2 htw
         have CG:=Lib.hid cg
         have HTW:=Lib.hid htw
         have HRL:=Lib.hid hrl
         have HYL:=Lib.hid hlY2
         have HG18:=Lib.hid hg18
         have hgi:(g:Int) < 1000000000000000000:=by omega
         clear cg htw hrl hlY2 hgg hy18 hr18 hg1 hg2 hml hnl hlX hlY hg18
         go_wp2_with (first | (go_at_call 161;refine (divide_sm HS.out.sx HS.out.sy LX.out LY.out hY0).mono ?_;rintro e w7 ⟨p7,n7,c7,p8,n8,c8,rfl,hs7,hs8,hb7⟩;have HS8:=Lib.hid hs8;have HSY:=Lib.hid (HS.out.sy.below hb7);have hbq:=HS.out.bel.trans (hb7.mono HS.out.bel.size);clear hs7 hs8 hb7) | (go_at_call 177;first | (with_reducible refine (value_sm HSY.out HYL.out).mono ?_;rintro e w8 ⟨rfl,rfl⟩) | (with_reducible refine (value_sm HS8.out HRL.out).mono ?_;rintro e w8 ⟨rfl,rfl⟩)) | (go_at_call 137;refine (chain hbq (CG.out _)).mono ?_;clear hbq;rintro e w9 ⟨rfl,hbq⟩;refine Hid.out ?_))
         refine Lib.hid ?_
         have hh:Has (w9.alloc (.cells #[.int .i64 g1,.int .i64 g2] 3)) (some ⟨w9.heap.size,0,none⟩) [(g1:Int),(g2:Int)]:=by
           refine Or.inr ⟨w9.heap.size,0,rfl,by simp,fun i hi=>?_⟩
           rw [World.cell?_alloc_new]
           rcases i with _ | _ | i
           · rfl
           · rfl
           · simp at hi;omega
         have ht:=trim_any (some ⟨w9.heap.size,0,none⟩) 2 2 [(g1:Int),(g2:Int)] _ rfl (Nat.le_refl _) (by omega) (fun h=>by cases h) hh
         rw [HTW.out] at ht
         have HT:=Lib.hid ht
         have HBA:=Lib.hid (hbq.alloc hbq.size (.cells #[.int .i64 g1,.int .i64 g2] 3))
         clear hh ht hbq
         go_wp2_with (go_at_call 178;refine HT.out.mono ?_;rintro e wz ⟨p3,n3,c3,rfl,hr3⟩;have HR3:=Lib.hid hr3;clear hr3)
         go_ret
         exact RetP.behind HBA.out (⟨p3,n3,c3,rfl,HR3.out⟩:RetP _ _ (.returned (.slice p3 n3 c3)) wz)
theorem pcN_zero : pcN 0=[]:=by rw [pcN,dif_pos rfl]
theorem pcN_nil {N:Nat} (h:pcN N=[]):N=0:=by
 have h1:=(pcN_isP N).2
 rw [h] at h1
 have h2:(0:Int)=(N:Int):=h1
 omega
theorem pcN_in (N i:Nat):0≤(pcN N)[i]?.getD 0∧(pcN N)[i]?.getD 0 < 10000:=inr_get (by decide) (pcN_isP N).1.1 i
theorem pcN_lt (N:Nat):N < 10000 ^ (pcN N).length:=by
 have h1:=pval_lt (by decide:(0:Int) < 10000) (pcN_isP N).1.1
 rw [(pcN_isP N).2] at h1
 have:((10000 ^ (pcN N).length:Nat):Int)=(10000:Int) ^ (pcN N).length:=by rw [Int.natCast_pow];rfl
 omega
theorem sl_nil (w:World):Sl w none 0 0 0:=⟨by rw [pcN_zero];rfl,Nat.le_refl _,by omega,fun _=>rfl,Or.inl pcN_zero⟩
theorem trim_cons (x R:Nat) (hx:x < 10000):trimP ((x:Int) :: pcN R)=pcN (x+10000*R):=by
 have hi:Inr 10000 ((x:Int) :: pcN R):=fun z hz=>by
   rcases List.mem_cons.1 hz with rfl | hz
   · omega
   · exact (pcN_isP R).1.1 z hz
 rw [trim_pcN hi]
 congr 1
 show ((x:Int)+10000*pval 10000 (pcN R)).toNat=_
 rw [(pcN_isP R).2];omega
theorem cut_at (b o n c:Nat) (xs:List Int) (w:World) (hn:n=xs.length) (_hnc:n≤c) (_hc:c≤9223372036854775807)
   (hcell:∀ i,i < xs.length→w.cell? ⟨b,o+i,none⟩=some (.int .i64 (xs[i]?.getD 0))) :
   Calls Tryz.prog 115 #[.slice (some ⟨b,o,none⟩) n c] w fun e w' => e = .returned (.slice (some ⟨b,o,none⟩) (trimP xs).length c)∧w'=w:=by
 have HN:=Lib.hid hn
 have HC:=Lib.hid hcell
 clear hn hcell
 go_enter Tryz.func115,Tryz.ntmps115
 go_wp2
 go_loop [0] (fun v=>∃ k:Nat,k≤n∧v = .slice (some ⟨b,o,none⟩) k c∧trimP (xs.take k)=trimP xs) (fun v=>sliceLen v)
 case atStart=>exact ⟨n,Nat.le_refl _,rfl,by rw [HN.out,List.take_length]⟩
 case round =>
   obtain ⟨k,hk,rfl,ht⟩:=hrel
   have HT:=Lib.hid ht
   clear ht
   by_cases h0:k=0
   · subst h0
     go_wp2
     go_ret
     have e:trimP xs=[]:=by rw [← HT.out];rfl
     exact ⟨retSl (by rw [e];rfl),rfl⟩
   · obtain ⟨j,rfl⟩:∃ j,k=j+1:=⟨k - 1,by omega⟩
     have hjn:j < xs.length:=by have:=HN.out;omega
     have hcj:=HC.out j hjn
     have htl:=take_last (xs:=xs) (k:=j) hjn
     obtain ⟨z,hz⟩:∃ z,xs[j]?.getD 0=z:=⟨_,rfl⟩
     rw [hz] at hcj htl
     have HTL:=Lib.hid htl
     clear hz htl
     by_cases hz0:z=0
     · subst hz0
       go_wp2
       go_round
       case rel=>exact ⟨j,by omega,by go_num,by rw [← HT.out,HTL.out,trimP_snoc_zero]⟩
       case measure=>simp [sliceLen]
     · have hzb:(z == 0)=false:=by simpa using hz0
       go_wp2
       go_ret
       have e:trimP xs=xs.take (j+1):=by rw [← HT.out,HTL.out,trimP_snoc _ hz0]
       exact ⟨retSl (by rw [e,List.length_take];omega),rfl⟩
theorem Has.setOther {w:World} {b:Nat} {xs:List Int} (h:Has w (some ⟨b,0,none⟩) xs) {B:Nat} (hB:b≠B) (j:Nat) (v:Value):Has (w.setCell ⟨B,j,none⟩ v) (some ⟨b,0,none⟩) xs:=by
 rcases h with h | ⟨b',o,hp,hlt,hc⟩
 · exact Or.inl h
 · injection hp with hp
   injection hp with e1 e2
   subst e1 e2
   refine Or.inr ⟨b,0,rfl,by rw [World.size_setCell];exact hlt,fun i hi=>?_⟩
   rw [World.cell?_setCell_other _ _ _ _ (by intro e;exact hB (congrArg Addr.block e).symm)]
   exact hc i hi
theorem mul_lt_ten (Y:Nat) (hY:0 < Y) {M:Nat} (h:M < 10000):M*Y < 10000*Y:=(Nat.mul_lt_mul_right hY).2 h
def RetQN (w:World) (Q R:Nat) (e:Ending) (w':World):Prop:=
 ∃ (p1:Option Addr) (n1 c1:Nat) (p2:Option Addr) (n2 c2:Nat),e = .returned (.tuple #[.slice p1 n1 c1,.slice p2 n2 c2])∧Sl w' p1 n1 c1 Q∧Sl w' p2 n2 c2 R∧Below w.heap.size w w'
structure PartsAt (ps:List Int) (Y gq nq j R:Nat) (outs:List Int) (W0 wr:World):Prop where
 le:j≤nq
 len:outs.length=nq - j
 inr:Inr 10000 outs
 sum:pval 10000 (ps.drop j)=Y*pval 10000 outs+R
 lt:R < Y
 own:wr.ownsRow W0.heap.size 3 1 (.slice (some ⟨gq,0,none⟩) nq nq) nq (iv (List.replicate j 0 ++ outs))
 bel:Below W0.heap.size W0 wr
theorem PartsAt.below {ps:List Int} {Y gq nq j R:Nat} {outs:List Int} {W0 wr w':World} (h:PartsAt ps Y gq nq j R outs W0 wr) (hb:Below wr.heap.size wr w'):PartsAt ps Y gq nq j R outs W0 w':=
 ⟨h.le,h.len,h.inr,h.sum,h.lt,own_below h.own hb,h.bel.trans (hb.mono h.bel.size)⟩
theorem PartsAt.next {ps:List Int} {Y gq nq j R:Nat} {outs:List Int} {W0 wr:World} (h:PartsAt ps Y gq nq (j+1) R outs W0 wr) (x D T:Nat) (hx:ps.drop j=(x:Int) :: ps.drop (j+1)) (hx1:x < 10000) (hT:T=x+10000*R) (hD:D=T / Y) :
   D < 10000∧PartsAt ps Y gq nq j (T % Y) ((D:Int) :: outs) W0 (wr.setCell ⟨gq,j,none⟩ (.int .i64 D)):=by
 have hl:=h.lt
 have hY:0 < Y:=by omega
 have hD1:D < 10000:=by rw [hD];exact Nat.div_lt_of_lt_mul (by rw [hT];omega)
 have hgb:=(h.own.lt gq rfl).1
 refine ⟨hD1,by have:=h.le;omega,by rw [List.length_cons,h.len];have:=h.le;omega,fun z hz=>?_,?_,Nat.mod_lt _ hY,?_,h.bel.setCell (p:=⟨gq,j,none⟩) hgb _⟩
 · rcases List.mem_cons.1 hz with rfl | hz
   · omega
   · exact h.inr z hz
 · rw [hx]
   show (x:Int)+10000*pval 10000 (ps.drop (j+1))=(Y:Int)*((D:Int)+10000*pval 10000 outs)+((T % Y:Nat):Int)
   have hm:=Nat.mod_add_div T Y
   rw [← hD] at hm
   have e:((Y*D:Nat):Int)=(Y:Int)*(D:Int):=Int.natCast_mul _ _
   rw [h.sum,Int.mul_add (Y:Int),Int.mul_left_comm (Y:Int) 10000]
   omega
 · have hs:=(h.own.stored j (.int .i64 D)).1
   rw [iv_set,rep_set] at hs
   exact hs
theorem parts_sl {p q:Option Addr} {n c m d X Y:Nat} {w:World} (h1:Sl w p n c X) (h2:Sl w q m d Y) (hX:(pcN X).length≤90000) (hY:(pcN Y).length≤90000) (hY0:0 < Y) :
   Calls Tryz.prog 127 #[.slice p n c,.slice q m d] w (RetQN w (X / Y) (X % Y)):=by
 obtain ⟨i0,hi,hi0,hi1,hi2⟩:=info_parts info3
 have hnX:n≤90000:=by rw [h1.len];exact hX
 have hmk:(Instr.makeSlice 92 (.int .i64 (n:Int)) (.int .i64 (n:Int))).run Tryz.prog w = .ok (.slice (some ⟨w.heap.size,0,none⟩) n n) (w.alloc (.cells (madeCells #[Value.int .i64 0] n) 3)):=
   make_ints _ Tryz.underlying92 n n (Nat.le_refl _) (by omega) w
 have h0:PartsAt (pcN X) Y w.heap.size n n 0 [] w (w.alloc (.cells (madeCells #[Value.int .i64 0] n) 3)):=
   ⟨Nat.le_refl _,by simp,fun x hx=>by simp at hx,by rw [h1.len,List.drop_length];simp [pval],hY0,by rw [List.append_nil];exact own_zeros w n (by omega),(Below.refl w.heap.size w).alloc (Nat.le_refl _) _⟩
 have hlt9:∀ T,T < 10000*Y→(pcN T).length≤90001:=fun T hT=>by
   refine Nat.le_trans (pcN_len T ((pcN Y).length+1) ?_) (Nat.succ_le_succ hY)
   have:=pcN_lt Y
   rw [Nat.pow_succ];omega
 have HP0:=Lib.hid h0
 have H1:=Lib.hid h1
 have H2:=Lib.hid h2
 have HLT:=Lib.hid hlt9
 have HYL:Hid ((pcN Y).length≤100000):=Lib.hid (by omega)
 clear h0 h1 h2 hlt9 hX hY
 go_enter Tryz.func127,Tryz.ntmps127
 go_wp2
 go_loopw [7,8] (fun rv jv wr=>∃ (j R:Nat) (outs:List Int) (pr:Option Addr) (nr cr:Nat),rv = .slice pr nr cr∧jv = .int .i64 ((j:Int) - 1)∧PartsAt (pcN X) Y w.heap.size n j R outs w wr∧Sl wr pr nr cr R) (fun _ jv _=>(intOf jv+1).toNat)
 case atStart=>exact ⟨n,0,[],none,0,0,rfl,by go_num,HP0.out,sl_nil _⟩
 case round =>
   obtain ⟨j,R,outs,pr,nr,cr,rfl,rfl,hP,hR⟩:=hrel
   have HP:=Lib.hid hP
   have HR:=Lib.hid hR
   have hjn:=hP.le
   have hRY:=hP.lt
   clear hP hR HP0
   by_cases hj0:j=0
   · subst hj0
     have hsum:=HP.out.sum
     rw [List.drop_zero,(pcN_isP X).2] at hsum
     have hue:=(Int.ediv_emod_unique (by omega:(0:Int) < (Y:Int)) (a:=(X:Int)) (r:=(R:Int)) (q:=pval 10000 outs)).2 ⟨by rw [hsum];omega,by omega,by omega⟩
     rw [← Int.natCast_ediv,← Int.natCast_emod] at hue
     have e1:trimP outs=pcN (X / Y):=by rw [trim_pcN HP.out.inr,← hue.1];rfl
     have e2:R=X % Y:=by omega
     have hqo:=HP.out.own
     rw [List.replicate_zero,List.nil_append] at hqo
     have hl:outs.length=n:=by rw [HP.out.len];rfl
     obtain ⟨p1,c1,hv1,hnc,hc1,hpn,hh⟩:=has_of_row hqo hl
     have hpp:some (⟨w.heap.size,0,none⟩:Addr)=p1∧n=c1:=by injection hv1 with h1 _ h3;exact ⟨h1,h3⟩
     obtain ⟨rfl,rfl⟩:=hpp
     have ht:=cut_any (some ⟨w.heap.size,0,none⟩) n n outs wr hl.symm hnc hc1 hpn hh
     rw [e1] at ht
     have HT:=Lib.hid ht
     have HB:=Lib.hid HP.out.bel
     subst e2
     clear hsum hue e1 hqo hl hh ht hv1
     go_wp2_with (go_at_call 115;refine HT.out.mono ?_;rintro e w4 ⟨p4,n4,c4,rfl,hr4⟩;have HR4:=Lib.hid hr4;clear hr4)
     go_ret2
     have h4:=HR4.out
     exact ⟨p4,n4,c4,pr,nr,cr,rfl,⟨h4.1,h4.2.1,h4.2.2.1,h4.2.2.2.1,h4.2.2.2.2.1⟩,HR.out.below h4.2.2.2.2.2,HB.out.trans (h4.2.2.2.2.2.mono HB.out.size)⟩
   · obtain ⟨k,rfl⟩:∃ k,j=k+1:=⟨j - 1,by omega⟩
     rw [show ((k+1:Nat):Int) - 1=(k:Int) by omega]
     have hkn:k < n:=by omega
     have hx:=pcN_in X k
     obtain ⟨x,hxe⟩:∃ x:Nat,(pcN X)[k]?.getD 0=(x:Int):=⟨((pcN X)[k]?.getD 0).toNat,by omega⟩
     have hdr:(pcN X).drop k=(x:Int) :: (pcN X).drop (k+1):=by rw [drop_cons (by have:=H1.out.len;omega),hxe]
     have hpx:∃ bx ox,p=some ⟨bx,ox,none⟩∧wr.cell? ⟨bx,ox+k,none⟩=some (.int .i64 (x:Int)):=by
       rcases H1.out.has with h | ⟨bx,ox,hp,hlt,hc⟩
       · have:=H1.out.len;rw [h] at this;rw [this] at hkn;exact absurd hkn (Nat.not_lt_zero _)
       · refine ⟨bx,ox,hp,?_⟩
         rw [HP.out.bel.cell (p:=⟨bx,ox+k,none⟩) hlt,hc k (by have:=H1.out.len;omega),hxe]
     obtain ⟨bx,ox,rfl,hcx⟩:=hpx
     rw [hxe] at hx
     have hx1:x < 10000:=by omega
     obtain ⟨T,hT⟩:∃ T,x+10000*R=T:=⟨_,rfl⟩
     have hTY:T < 10000*Y:=by omega
     have HTL:=Lib.hid (HLT.out T hTY)
     have HNR:Hid (nr≤90001):=Lib.hid (by rw [HR.out.len];exact HLT.out R (by omega))
     have HDR:=Lib.hid hdr
     have HT:=Lib.hid hT
     have hk9:(k:Int) < (n:Int):=by omega
     clear hdr hT hx hxe
     have hlit:=World.ownsRow_lit (base:=wr.heap.size) (e:=3) (size:=1) wr #[Value.int .i64 (x:Int)] 1 (Nat.le_refl _) (by decide) rfl
     have hbl:=(Below.refl wr.heap.size wr).alloc (Nat.le_refl _) (Obj.cells #[Value.int .i64 (x:Int)] 3)
     have htc:=trim_cons x R hx1
     rw [HT.out] at htc
     have HTC:=Lib.hid htc
     have HLIT:=Lib.hid hlit
     have HBL:=Lib.hid hbl
     clear htc hlit hbl
     go_upto_region 6 with fail
     go_cut [7] (fun v wx=>∃ (b' n' c':Nat),v = .slice (some ⟨b',0,none⟩) n' c'∧wr.heap.size≤b'∧Sl wx (some ⟨b',0,none⟩) n' c' T∧Below wr.heap.size wr wx)
     case first =>
       rcases pr with _ | ad
       · have hc0:=HR.out.nil rfl
         have hR0:pcN R=[]:=by
           rcases HR.out.has with h | ⟨_,_,h,_⟩
           · exact h
           · cases h
         have hn0:=HR.out.len
         rw [hR0] at hn0
         have hn0':nr=0:=hn0
         subst hn0' hc0
         have htc:=HTC.out
         rw [hR0] at htc
         have hlen1:=congrArg List.length htc
         have hct:=cut_at wr.heap.size 0 1 1 [(x:Int)] (wr.alloc (.cells #[.int .i64 (x:Int)] 3)) rfl (Nat.le_refl _) (by omega) (fun i hi=>by
           obtain rfl:i=0:=by simpa using hi
           rw [World.cell?_alloc_new];rfl)
         have hll:(trimP [(x:Int)]).length≤1:=by rw [trimP_take,List.length_take];exact Nat.min_le_right _ _
         have hh:Has (wr.alloc (.cells #[.int .i64 (x:Int)] 3)) (some ⟨wr.heap.size,0,none⟩) (pcN T):=by
           rw [← htc,trimP_take]
           refine Has.take (Or.inr ⟨wr.heap.size,0,rfl,by simp,fun i hi=>?_⟩) _
           obtain rfl:i=0:=by simpa using hi
           rw [World.cell?_alloc_new];rfl
         rw [htc] at hct hll
         have HCT:=Lib.hid hct
         have HH:=Lib.hid hh
         clear hct hh htc hR0 hn0 hjn hRY hTY hlen1
         go_wp2_with (first | (at_builtin;refine wpList_append_own_none _ rfl _ _ 92 rfl wr.heap.size 3 i0 1 Tryz.underlying92 hi _ _ _ rfl HLIT.out rfl ?_) | (go_at_call 115;refine HCT.out.mono ?_;rintro e w4 ⟨rfl,rfl⟩))
         go_meet
         exact ⟨wr.heap.size,_,1,rfl,Nat.le_refl _,⟨rfl,hll,by omega,(fun h=>by cases h),HH.out⟩,HBL.out⟩
       · go_wp2_with (at_builtin;refine wpList_append_own _ rfl _ _ 92 rfl wr.heap.size 3 i0 (.int .i64 0) 1 8 Tryz.underlying92 hi hi0 hi1 hi2 rfl (by decide) _ _ _ rfl HLIT.out ad nr cr (iv (pcN R)) rfl ?hl ?hnews ?h1 ?c3 ?c4 ?c5 ?_)
         case hl=>rw [iv,List.length_map];exact HR.out.len.symm
         case hnews =>
           intro j u hu
           rw [iv,List.getElem?_map] at hu
           by_cases hj:j < (pcN R).length
           · rcases HR.out.has with hp | ⟨b,o,hpe,hlt,hcell⟩
             · rw [hp] at hj;simp at hj
             · injection hpe with hpe
               subst hpe
               rw [List.getElem?_eq_getElem hj] at hu
               have hc:=hcell j hj
               rw [List.getElem?_eq_getElem hj] at hc
               rw [World.cell?_alloc_lt _ _ _ (by rw [Go.WideShapes.add_plain];exact hlt),Go.WideShapes.add_plain,hc]
               exact hu
           · rw [List.getElem?_eq_none (by omega)] at hu;cases hu
         case h1=>intro u hu;simp [iv] at hu;obtain ⟨x,_,rfl⟩:=hu;simp [Value.oneCell']
         case c3=>have:=HR.out.len;have:=HNR.out;unfold maxLen;omega
         case c4=>have:=HNR.out;omega
         intro v' w1 hown1 hgrow hnil
         have hown2:w1.ownsRow wr.heap.size 3 1 v' (1+nr) (iv ((x:Int) :: pcN R)):=hown1
         have hb1:=HBL.out.grown hgrow (by simp only [World.size_alloc];omega) (own_ge3 HLIT.out)
         have hl1:((x:Int) :: pcN R).length=1+nr:=by rw [List.length_cons,HR.out.len];omega
         obtain ⟨g1,c1,rfl,hg1,hnc,hc1⟩:∃ g1 c1,v' = .slice (some ⟨g1,0,none⟩) (1+nr) c1∧wr.heap.size≤g1∧1+nr≤c1∧c1≤9223372036854775807:=by
           rcases hown2.2 with ⟨_,h0⟩ | ⟨g,cap,cur,hv,hg,_,hnc,hm,_⟩
           · omega
           · exact ⟨g,cap,hv,hg,hnc,by unfold maxLen at hm;omega⟩
         have hcell:∀ i,i < ((x:Int) :: pcN R).length→w1.cell? ⟨g1,0+i,none⟩=some (.int .i64 (((x:Int) :: pcN R)[i]?.getD 0)):=fun i hi=>by
           rw [Nat.zero_add,hown2.cellAt i (by omega),iv,List.getElem?_map,List.getElem?_eq_getElem hi];rfl
         have hct:=cut_at g1 0 (1+nr) c1 ((x:Int) :: pcN R) w1 hl1.symm hnc hc1 hcell
         have hll:(trimP ((x:Int) :: pcN R)).length≤1+nr:=by rw [trimP_take,List.length_take,hl1];exact Nat.min_le_right _ _
         have hh:Has w1 (some ⟨g1,0,none⟩) (pcN T):=by
           rw [← HTC.out,trimP_take]
           exact Has.take (Or.inr ⟨g1,0,rfl,(hown2.lt g1 rfl).2,hcell⟩) _
         rw [HTC.out] at hct hll
         have HCT:=Lib.hid hct
         have HH:=Lib.hid hh
         have HB1:=Lib.hid hb1
         clear hct hh hown1 hown2 hgrow hb1 hl1 hjn hRY hTY hcell
         go_wp2_with (go_at_call 115;refine HCT.out.mono ?_;rintro e w4 ⟨rfl,rfl⟩)
         go_meet
         exact ⟨g1,_,c1,rfl,hg1,⟨rfl,by omega,hc1,(fun h=>by cases h),HH.out⟩,HB1.out⟩
     case rest =>
       obtain ⟨b',n',c',rfl,hb'1,hS,hb⟩:=hcut
       have HS:=Lib.hid hS
       have HB:=Lib.hid hb
       have hgq:=(HP.out.own.lt w.heap.size rfl).2
       clear hS hb HLIT HBL HTC
       go_wp2
       go_loopw [9,10] (fun lv hv wz=>∃ lo hi':Nat,lv = .int .i64 lo∧hv = .int .i64 hi'∧lo≤hi'∧hi'≤9999∧lo*Y≤T∧T < (hi'+1)*Y∧Below wc.heap.size wc wz) (fun lv hv _=>(intOf hv - intOf lv).toNat)
       case atStart=>exact ⟨0,9999,rfl,rfl,by omega,by omega,by omega,hTY,Below.refl _ _⟩
       case round =>
         obtain ⟨lo,hi',rfl,rfl,hlh,hh9,hlo,hhi,hbz⟩:=hrel
         have HLO:=Lib.hid hlo
         have HHI:=Lib.hid hhi
         clear hlo hhi
         by_cases hlt:lo < hi'
         · have hlt':(lo:Int) < (hi':Int):=by omega
           obtain ⟨M,hM⟩:∃ M,(lo+hi'+1) / 2=M:=⟨_,rfl⟩
           have hM1:lo < M:=by omega
           have hM2:M≤hi':=by omega
           have hMY:M*Y < 10000*Y:=mul_lt_ten Y hY0 (show M < 10000 by omega)
           have hk0:(-10000:Int)≤(M:Int):=by omega
           have hk1:(M:Int)≤10000:=by omega
           have cj:=joined_sl (w:=wr) (sl_nil wr) (H2.out.below (HP.out.bel.trans ((HB.out.mono HP.out.bel.size).trans (hbz.mono (Nat.le_trans HP.out.bel.size HB.out.size))))) (by rw [pcN_zero];decide) HYL.out (M:Int) hk0 hk1 (M*Y) (by rw [Int.natCast_mul];simp)
           have hMl:(pcN (M*Y)).length≤100000:=by have:=HLT.out _ hMY;omega
           have hTl:(pcN T).length≤100000:=by have:=HTL.out;omega
           obtain ⟨A1,hA1⟩:∃ A1:Nat,lo+hi'=A1:=⟨_,rfl⟩
           obtain ⟨S1,hS1⟩:∃ S1:Nat,A1+1=S1:=⟨_,rfl⟩
           have z1:IntKind.i64.wrap ((lo:Int)+(hi':Int))=(A1:Int):=by rw [← hA1,Int.natCast_add];exact IntWalk.i64_in _ (by omega)
           have z2:IntKind.i64.wrap ((A1:Int)+1)=(S1:Int):=by rw [← hS1,Int.natCast_add];exact IntWalk.i64_in _ (by omega)
           have z3:(S1:Int).tdiv 2=(M:Int):=by rw [Int.tdiv_eq_ediv_of_nonneg (by omega)];omega
           have CJ:=Lib.hid cj
           have HML:=Lib.hid hMl
           have HTl:=Lib.hid hTl
           have HSz:=Lib.hid (HS.out.below hbz)
           have HBZ:=Lib.hid hbz
           clear cj hMl hTl hM hMY hbz hk0 hk1 hTY hRY hA1 hS1
           by_cases hle:T < M*Y
           · have hdl:=decide_eq_true hle
             have HLE:=Lib.hid hle
             have hnew:T < (M - 1+1)*Y:=by rw [Nat.sub_add_cancel (Nat.lt_of_le_of_lt (Nat.zero_le _) hM1)];exact hle
             have HNEW:=Lib.hid hnew
             clear hnew hle
             go_wp2_with (first | (go_at_call 70;refine (chainR HBZ.out CJ.out).mono ?_;rintro e w5 ⟨p5,n5,c5,rfl,hs5,hl5,hb5⟩;have HS5:=Lib.hid hs5;have HL5:=Lib.hid hl5;have HB5:=Lib.hid hb5;clear hs5 hl5 hb5) | (go_at_call 71;refine (chain HB5.out (less_sl (HSz.out.below HL5.out) HS5.out HTl.out HML.out true hdl)).mono ?_;rintro e w6 ⟨rfl,hb6⟩))
             clear z1 z2 z3
             exact ⟨⟨lo,M - 1,rfl,by go_num,by omega,by omega,HLO.out,HNEW.out,hb6⟩,by simp [intOf];omega⟩
           · have hdl:=decide_eq_false hle
             have HLE:=Lib.hid (Nat.le_of_not_lt hle)
             clear hle
             go_wp2_with (first | (go_at_call 70;refine (chainR HBZ.out CJ.out).mono ?_;rintro e w5 ⟨p5,n5,c5,rfl,hs5,hl5,hb5⟩;have HS5:=Lib.hid hs5;have HL5:=Lib.hid hl5;have HB5:=Lib.hid hb5;clear hs5 hl5 hb5) | (go_at_call 71;refine (chain HB5.out (less_sl (HSz.out.below HL5.out) HS5.out HTl.out HML.out false hdl)).mono ?_;rintro e w6 ⟨rfl,hb6⟩))
             clear z1 z2 z3
             exact ⟨⟨M,hi',rfl,rfl,by omega,by omega,HLE.out,HHI.out,hb6⟩,by simp [intOf];omega⟩
         · obtain rfl:lo=hi':=by omega
           have hD:T / Y=lo:=Nat.div_eq_of_lt_le HLO.out HHI.out
           have hbw:=HB.out.trans (hbz.mono HB.out.size)
           have hPz:=HP.out.below hbw
           have hnx:=(hPz.next x lo T HDR.out hx1 HT.out.symm hD.symm).2
           have cq:wr.cell? ⟨w.heap.size,k,none⟩=some (.int .i64 0):=by
             rw [hPz.own.cellAt k (by omega),iv,List.getElem?_map,List.getElem?_append_left (by simp),List.getElem?_eq_getElem (by simp),List.getElem_replicate];rfl
           have fq:=hPz.own.frozenAt k
           have hsz:Sl (wr.setCell ⟨w.heap.size,k,none⟩ (.int .i64 (lo:Int))) (some ⟨b',0,none⟩) n' c' T:=
             ⟨HS.out.len,HS.out.cap,HS.out.top,HS.out.nil,(HS.out.has.below hbz).setOther (by omega) _ _⟩
           have hm9:=Nat.mod_add_div T Y
           rw [hD] at hm9
           have cj:=joined_sl (w:=wr.setCell ⟨w.heap.size,k,none⟩ (.int .i64 (lo:Int))) hsz (H2.out.below hnx.bel) (by have:=HTL.out;omega) HYL.out (-(lo:Int)) (by omega) (by omega) (T % Y) (by
             rw [Int.neg_mul]
             have e:((Y*lo:Nat):Int)=(lo:Int)*(Y:Int):=by rw [Int.natCast_mul,Int.mul_comm]
             omega)
           have z1:IntKind.i64.wrap (-(lo:Int)) = -(lo:Int):=IntWalk.i64_in _ (by omega)
           have CJ:=Lib.hid cj
           have HNX:=Lib.hid hnx
           clear cj hsz hPz hnx hm9 hD hTY hRY hbz hbw
           go_wp2_with (go_at_call 70;refine CJ.out.mono ?_;rintro e w5 ⟨p5,n5,c5,rfl,hr5⟩;have HR5:=Lib.hid hr5;clear hr5)
           have h5:=HR5.out
           exact ⟨⟨k,T % Y,_,p5,n5,c5,rfl,by go_num,HNX.out.below h5.2.2.2.2.2,⟨h5.1,h5.2.1,h5.2.2.1,h5.2.2.2.1,h5.2.2.2.2.1⟩⟩,by simp [intOf]⟩
theorem sgI_dec (x:Int):sgI (decide (x < 0)) x.natAbs=x:=by
 by_cases h:x < 0
 · rw [decide_eq_true h,sgI_t];omega
 · rw [decide_eq_false h,sgI_f];omega
theorem sgn_sgI {b:Bool} {N:Nat} {z:Int} (h:sgI b N=z):strOf (sgn b N)=itoaB z:=by
 unfold itoaB
 rw [sgn_of z b N (sgI_abs h) (fun h0=>by
   cases b
   · rw [sgI_f] at h;exact (decide_eq_false (by omega)).symm
   · rw [sgI_t] at h;exact (decide_eq_true (by omega)).symm)]
theorem retSS {a b c d:ByteArray} (h:a=b) (g:c=d):Ending.returned (.tuple #[.string a,.string c]) = .returned (.tuple #[.string b,.string d]):=by rw [h,g]
theorem chainRQ {P:Program} {K:FuncId} {args:Array Value} {w w0:World} {Q R:Nat} (hb:Below w0.heap.size w0 w) (h:Calls P K args w (RetQN w Q R)) :
   Calls P K args w fun e w' => ∃ p1 n1 c1 p2 n2 c2,e = .returned (.tuple #[.slice p1 n1 c1,.slice p2 n2 c2])∧Hid (Sl w' p1 n1 c1 Q∧Sl w' p2 n2 c2 R∧Below w.heap.size w w')∧Below w0.heap.size w0 w':=
 h.mono fun _ _ ⟨p1,n1,c1,p2,n2,c2,e,h1,h2,h3⟩=>⟨p1,n1,c1,p2,n2,c2,e,Lib.hid ⟨h1,h2,h3⟩,hb.trans (h3.mono hb.size)⟩
theorem sl_one (w:World):Sl (w.alloc (.cells #[.int .i64 1] 3)) (some ⟨w.heap.size,0,none⟩) 1 1 1:=by
 have h1:pcN 1=[1]:=by rw [pcN,dif_neg (by decide),show 1 / 10000=0 from rfl,pcN_zero];rfl
 refine ⟨by rw [h1];rfl,Nat.le_refl _,by omega,(fun h=>by cases h),?_⟩
 rw [h1]
 refine Or.inr ⟨w.heap.size,0,rfl,by simp,fun i hi=>?_⟩
 obtain rfl:i=0:=by simpa using hi
 rw [World.cell?_alloc_new];rfl
theorem emod_of_tmod_neg {x y:Int} (hy:y≠0) (h:x.tmod y < 0):x.tmod y+max y (-y)=x % y∧(x - x % y).tdiv y=x / y:=by
 have h1:=Int.emod_add_mul_ediv x y
 refine ⟨?_,?_⟩
 · have h2:=Int.tmod_eq_emod (a:=x) (b:=y)
   rw [h2] at h ⊢
   split at h
   · have:=Int.emod_nonneg x hy;omega
   · rename_i hc;rw [if_neg hc];omega
 · rw [show x - x % y=y*(x / y) by omega];exact Int.mul_tdiv_cancel_left _ hy
theorem ediv_of_tmod {x y:Int} (hy:y≠0) (h:¬ x.tmod y < 0):x.tmod y=x % y∧x.tdiv y=x / y:=by
 have h1:=Int.emod_add_mul_ediv x y
 have h3:=Int.tmod_add_mul_tdiv x y
 have e:x.tmod y=x % y:=by
   have h2:=Int.tmod_eq_emod (a:=x) (b:=y)
   rw [h2] at h ⊢
   split
   · omega
   · rename_i hc
     rw [if_neg hc] at h
     exfalso
     have:=Int.emod_lt x hy
     omega
 refine ⟨e,?_⟩
 have h4:y*x.tdiv y=y*(x / y):=by omega
 exact Int.eq_of_mul_eq_mul_left hy h4
theorem refDivMod_short (x y:Int) (w:World) (E:Env w) (hx:dlen x≤17) (hy:dlen y≤17) (hyz:y≠0) :
   Calls Tryz.prog 78 #[.string (itoaB x),.string (itoaB y)] w (Ret w (.tuple #[.string (itoaB (x / y)),.string (itoaB (x % y))])):=by
 have e1:x.natAbs < 100000000000000000:=Nat.lt_of_lt_of_le (dig_lt _) (Nat.pow_le_pow_right (by decide) hx)
 have e2:y.natAbs < 100000000000000000:=Nat.lt_of_lt_of_le (dig_lt _) (Nat.pow_le_pow_right (by decide) hy)
 have b1:∀ w,Calls Tryz.prog 66 #[.string (itoaB x)] w (Ret w (.tuple #[.int .i64 x,.bool true])):=fun w=>brief_short x w hx
 have b2:∀ w,Calls Tryz.prog 66 #[.string (itoaB y)] w (Ret w (.tuple #[.int .i64 y,.bool true])):=fun w=>brief_short y w hy
 have q3:(x / y).natAbs < 1000000000000000000:=by have:=Int.natAbs_ediv_le_natAbs x y;omega
 have r3:0≤x % y∧x % y < 1000000000000000000:=by have h1:=Int.emod_nonneg x hyz;have h2:=Int.emod_lt x hyz;omega
 have o1:CE 37 #[.int .i64 (x / y)] (.string (itoaB (x / y))):=fun w E=>refOf_any (x / y) (by omega) (by omega) w E
 have o2:CE 37 #[.int .i64 (x % y)] (.string (itoaB (x % y))):=fun w E=>refOf_any (x % y) (by omega) (by omega) w E
 have a3:(x.tdiv y).natAbs≤x.natAbs:=by rw [Int.natAbs_tdiv];exact Nat.div_le_self _ _
 have a4:(x.tmod y).natAbs≤x.natAbs:=by rw [Int.natAbs_tmod];exact Nat.mod_le _ _
 have hneg:=fun h:x.tmod y < 0=>emod_of_tmod_neg hyz h
 have hpos:=fun h:¬ x.tmod y < 0=>ediv_of_tmod hyz h
 have hyne:(y == 0)=false:=by rw [beq_eq_false_iff_ne];exact hyz
 obtain ⟨q9,hq9⟩:∃ q9,x / y=q9:=⟨_,rfl⟩
 obtain ⟨r9,hr9⟩:∃ r9,x % y=r9:=⟨_,rfl⟩
 obtain ⟨qq,hqq⟩:∃ qq,x.tdiv y=qq:=⟨_,rfl⟩
 obtain ⟨rr,hrr⟩:∃ rr,x.tmod y=rr:=⟨_,rfl⟩
 rw [hq9] at o1 q3 ⊢
 rw [hr9] at o2 r3 ⊢
 simp only [hq9,hr9,hqq,hrr] at hneg hpos a3 a4
 have z1:IntKind.i64.wrap qq=qq:=IntWalk.i64_in _ (by omega)
 have z1':IntKind.i64.wrap rr=rr:=IntWalk.i64_in _ (by omega)
 obtain ⟨a,ha⟩:∃ a,itoaB x=a:=⟨_,rfl⟩
 obtain ⟨b,hb0⟩:∃ b,itoaB y=b:=⟨_,rfl⟩
 rw [ha] at b1 ⊢
 rw [hb0] at b2 ⊢
 obtain ⟨sq,hsq⟩:∃ sq,itoaB q9=sq:=⟨_,rfl⟩
 obtain ⟨sr,hsr⟩:∃ sr,itoaB r9=sr:=⟨_,rfl⟩
 rw [hsq] at o1 ⊢
 rw [hsr] at o2 ⊢
 have B1:=Lib.hid b1
 have B2:=Lib.hid b2
 have O1:=Lib.hid o1
 have O2:=Lib.hid o2
 clear b1 b2 o1 o2 ha hb0 hsq hsr hq9 hr9 hx hy
 have hb:=Below.refl w.heap.size w
 by_cases hr:rr < 0
 · obtain ⟨h1,h2⟩:=hneg hr
   have z2:IntKind.i64.wrap (-y) = -y:=IntWalk.i64_in _ (by omega)
   obtain ⟨my,hmy⟩:∃ my,max y (-y)=my:=⟨_,rfl⟩
   rw [hmy] at h1
   have z3:IntKind.i64.wrap (rr+my)=r9:=by rw [h1];exact IntWalk.i64_in _ (by omega)
   obtain ⟨d,hd⟩:∃ d,x - r9=d:=⟨_,rfl⟩
   rw [hd] at h2
   have z4:IntKind.i64.wrap (x - r9)=d:=by rw [hd];exact IntWalk.i64_in _ (by omega)
   have z5:wrap64 q9=q9:=IntWalk.wrap64_in _ ⟨by omega,by omega⟩
   clear h1 hneg hpos hd e1 e2 q3 r3 a3 a4
   go_enter Tryz.func78,Tryz.ntmps78
   go_wp2_with (go_at_call 66;first | (with_reducible refine (chain hb (B1.out _)).mono ?_;clear hb;rintro e w1 ⟨rfl,hb⟩) | (with_reducible refine (chain hb (B2.out _)).mono ?_;clear hb;rintro e w1 ⟨rfl,hb⟩))
   go_wp2
   go_region
   go_wp2_with (go_at_call 37;first | (with_reducible refine (chain hb.drew (O1.out _ (E.below hb.drew))).mono ?_;clear hb;rintro e w1 ⟨rfl,hb⟩) | (with_reducible refine (chain hb (O2.out _ (E.below hb))).mono ?_;clear hb;rintro e w1 ⟨rfl,hb⟩))
   go_ret2
   exact ⟨rfl,hb⟩
 · obtain ⟨h1,h2⟩:=hpos hr
   subst h1 h2
   clear hneg hpos e1 e2 q3 a3 a4
   go_enter Tryz.func78,Tryz.ntmps78
   go_wp2_with (go_at_call 66;first | (with_reducible refine (chain hb (B1.out _)).mono ?_;clear hb;rintro e w1 ⟨rfl,hb⟩) | (with_reducible refine (chain hb (B2.out _)).mono ?_;clear hb;rintro e w1 ⟨rfl,hb⟩))
   go_wp2
   go_region
   go_wp2_with (go_at_call 37;first | (with_reducible refine (chain hb.drew (O1.out _ (E.below hb.drew))).mono ?_;clear hb;rintro e w1 ⟨rfl,hb⟩) | (with_reducible refine (chain hb (O2.out _ (E.below hb))).mono ?_;clear hb;rintro e w1 ⟨rfl,hb⟩))
   go_ret2
   exact ⟨rfl,hb⟩
theorem refDivMod_long (x y v1 v2:Int) (b1 b2:Bool) (w:World) (E:Env w) (hk:b1=false∨(b1=true∧b2=false)) (hx:dlen x≤9000) (hy:dlen y≤9000) (hyz:y≠0)
   (k1:∀ w,Calls Tryz.prog 66 #[.string (itoaB x)] w (Ret w (.tuple #[.int .i64 v1,.bool b1])))
   (k2:∀ w,Calls Tryz.prog 66 #[.string (itoaB y)] w (Ret w (.tuple #[.int .i64 v2,.bool b2]))) :
   Calls Tryz.prog 78 #[.string (itoaB x),.string (itoaB y)] w (Ret w (.tuple #[.string (itoaB (x / y)),.string (itoaB (x % y))])):=by
 have s1:∀ w,Calls Tryz.prog 67 #[.string (itoaB x)] w (Ret w (.tuple #[.bool (decide (x < 0)),.string (magB (itoaB x))])):=fun w=>split_any _ w _ (neg_itoaB x)
 have s2:∀ w,Calls Tryz.prog 67 #[.string (itoaB y)] w (Ret w (.tuple #[.bool (decide (y < 0)),.string (magB (itoaB y))])):=fun w=>split_any _ w _ (neg_itoaB y)
 have t1:∀ w,Calls Tryz.prog 68 #[.string (magB (itoaB x))] w (RetP w (pcN x.natAbs)):=fun w=>take_itoa x w (by omega)
 have t2:∀ w,Calls Tryz.prog 68 #[.string (magB (itoaB y))] w (RetP w (pcN y.natAbs)):=fun w=>take_itoa y w (by omega)
 have bx:(Lib.decDigits x.natAbs).length≤9000:=by unfold dlen at hx;exact hx
 have by':(Lib.decDigits y.natAbs).length≤9000:=by unfold dlen at hy;exact hy
 have lx:(pcN x.natAbs).length≤9000:=pcN_len_dec _ _ bx
 have ly:(pcN y.natAbs).length≤9000:=pcN_len_dec _ _ by'
 have dd:∀ V,V≤x.natAbs+y.natAbs→(Lib.decDigits V).length≤9001:=fun V hV=>dec_add_len 9000 x.natAbs y.natAbs V (by decide) bx by' hV
 have ll:∀ V,V≤x.natAbs+y.natAbs→(pcN V).length≤9001:=fun V hV=>pcN_len_dec _ _ (dd V hV)
 have hYP:0 < y.natAbs:=by omega
 have hq1:x.natAbs / y.natAbs+1≤x.natAbs+y.natAbs:=by have:=Nat.div_le_self x.natAbs y.natAbs;omega
 have hq0:x.natAbs / y.natAbs≤x.natAbs+y.natAbs:=by omega
 have hr0:x.natAbs % y.natAbs≤x.natAbs+y.natAbs:=by have:=Nat.mod_le x.natAbs y.natAbs;omega
 have hr1:y.natAbs - x.natAbs % y.natAbs≤x.natAbs+y.natAbs:=by omega
 have hle:=Nat.le_of_lt (Nat.mod_lt x.natAbs hYP)
 have LQ1:Hid ((pcN (x.natAbs / y.natAbs+1)).length≤100000):=Lib.hid (Nat.le_trans (ll _ hq1) (by decide))
 have LQ0:Hid ((pcN (x.natAbs / y.natAbs)).length≤100000):=Lib.hid (Nat.le_trans (ll _ hq0) (by decide))
 have LR0:Hid ((pcN (x.natAbs % y.natAbs)).length≤100000):=Lib.hid (Nat.le_trans (ll _ hr0) (by decide))
 have LR1:Hid ((pcN (y.natAbs - x.natAbs % y.natAbs)).length≤100000):=Lib.hid (Nat.le_trans (ll _ hr1) (by decide))
 have DQ1:Hid ((Lib.decDigits (x.natAbs / y.natAbs+1)).length≤1000000):=Lib.hid (Nat.le_trans (dd _ hq1) (by decide))
 have DQ0:Hid ((Lib.decDigits (x.natAbs / y.natAbs)).length≤1000000):=Lib.hid (Nat.le_trans (dd _ hq0) (by decide))
 have DR0:Hid ((Lib.decDigits (x.natAbs % y.natAbs)).length≤1000000):=Lib.hid (Nat.le_trans (dd _ hr0) (by decide))
 have DR1:Hid ((Lib.decDigits (y.natAbs - x.natAbs % y.natAbs)).length≤1000000):=Lib.hid (Nat.le_trans (dd _ hr1) (by decide))
 have LX:Hid ((pcN x.natAbs).length≤90000):=Lib.hid (Nat.le_trans lx (by decide))
 have LY:Hid ((pcN y.natAbs).length≤90000):=Lib.hid (Nat.le_trans ly (by decide))
 have LY1:Hid ((pcN y.natAbs).length≤100000):=Lib.hid (Nat.le_trans ly (by decide))
 have gx:=sgI_dec x
 have gy:=sgI_dec y
 have DN:=Lib.hid (fun h:x.natAbs % y.natAbs≠0=>fun b (e:decide (x < 0)=true) (eb:decide (y < 0)=b)=>dm_neg (b2:=b) (x:=x) (y:=y) (by rw [← e];exact gx) (by rw [← eb];exact gy) hYP h)
 have DP:=Lib.hid (fun b b' (e:decide (x < 0)=b) (eb:decide (y < 0)=b') (h:b=true→x.natAbs % y.natAbs=0)=>dm_pos (b1:=b) (b2:=b') (x:=x) (y:=y) (by rw [← e];exact gx) (by rw [← eb];exact gy) hYP h)
 obtain ⟨mx,hmx⟩:∃ v,decide (x < 0)=v:=⟨_,rfl⟩
 obtain ⟨my,hmy⟩:∃ v,decide (y < 0)=v:=⟨_,rfl⟩
 obtain ⟨sx,hsx⟩:∃ v,magB (itoaB x)=v:=⟨_,rfl⟩
 obtain ⟨sy,hsy⟩:∃ v,magB (itoaB y)=v:=⟨_,rfl⟩
 obtain ⟨q,hq⟩:∃ v,itoaB (x / y)=v:=⟨_,rfl⟩
 obtain ⟨r,hr⟩:∃ v,itoaB (x % y)=v:=⟨_,rfl⟩
 obtain ⟨a,ha⟩:∃ v,itoaB x=v:=⟨_,rfl⟩
 obtain ⟨b,hb0⟩:∃ v,itoaB y=v:=⟨_,rfl⟩
 rw [hsx] at s1 t1
 rw [hsy] at s2 t2
 rw [hmx] at s1
 rw [hmy] at s2
 rw [hq,hr]
 rw [ha] at s1 k1 ⊢
 rw [hb0] at s2 k2 ⊢
 have K1:=Lib.hid k1
 have K2:=Lib.hid k2
 have S1:=Lib.hid s1
 have S2:=Lib.hid s2
 have T1:=Lib.hid t1
 have T2:=Lib.hid t2
 have HQE:=Lib.hid hq
 have HRE:=Lib.hid hr
 have HMX:=Lib.hid hmx
 have HMY:=Lib.hid hmy
 have HYP:=Lib.hid hYP
 have HLE:=Lib.hid hle
 clear k1 k2 s1 s2 t1 t2 hmx hmy hsx hsy hq hr ha hb0 hx hy bx by' lx ly dd ll hq1 hq0 hr0 hr1 gx gy hYP hle hyz
 have hb:=Below.refl w.heap.size w
 rcases hk with rfl | ⟨rfl,rfl⟩
 all_goals
   go_enter Tryz.func78,Tryz.ntmps78
   go_upto_region 12 with (first | (go_at_call 66;first | (with_reducible refine (chain hb (K1.out _)).mono ?_;clear hb;rintro e w1 ⟨rfl,hb⟩) | (with_reducible refine (chain hb (K2.out _)).mono ?_;clear hb;rintro e w1 ⟨rfl,hb⟩)) | (go_at_call 67;first | (with_reducible refine (chain hb (S1.out _)).mono ?_;clear hb;rintro e w1 ⟨rfl,hb⟩) | (with_reducible refine (chain hb (S2.out _)).mono ?_;clear hb;rintro e w1 ⟨rfl,hb⟩)) | (go_at_call 68;first | (with_reducible refine (chainR hb (T1.out _)).mono ?_;clear hb;rintro e w1 ⟨p1,n1,c1,rfl,hs1,hl1,hb⟩;have HS1:=Lib.hid hs1;have HL1:=Lib.hid hl1;clear hs1 hl1) | (with_reducible refine (chainR hb (T2.out _)).mono ?_;clear hb;rintro e w2 ⟨p2,n2,c2,rfl,hs2,hl2,hb⟩;have HS2:=Lib.hid hs2;have HL2:=Lib.hid hl2;clear hs2 hl2)) | (go_at_call 127;refine (chainRQ hb (parts_sl (HS1.out.below HL2.out) HS2.out LX.out LY.out HYP.out)).mono ?_;clear hb;rintro e w5 ⟨p5,n5,c5,p6,n6,c6,rfl,hs5,hb⟩))
   have hn6:=hs5.out.2.1.len
   by_cases hA:mx=true∧n6≠0
   · obtain ⟨rfl,hn6z⟩:=hA
     have hRz:x.natAbs % y.natAbs≠0:=fun e=>hn6z (by rw [hn6,e,pcN_zero];rfl)
     obtain ⟨e1,e2⟩:=DN.out hRz my HMX.out HMY.out
     have hgt:(0:Int) < (n6:Int):=by omega
     have e1':sgI (!my) (x.natAbs / y.natAbs+1)=x / y:=by cases my <;> exact e1
     have E1:Hid (strOf (sgn (!my) (x.natAbs / y.natAbs+1))=q):=Lib.hid (by rw [sgn_sgI e1',HQE.out])
     have E2:Hid (strOf (sgn false (y.natAbs - x.natAbs % y.natAbs))=r):=Lib.hid (by rw [sgn_sgI e2,HRE.out])
     have cj:=joined_sl (w:=w5.alloc (.cells #[.int .i64 1] 3)) (hs5.out.1.below ((Below.refl _ _).alloc (Nat.le_refl _) _)) (sl_one w5) LQ0.out (Nat.le_trans (pcN_len 1 1 (by decide)) (by decide)) 1 (by decide) (by decide) (x.natAbs / y.natAbs+1) (by omega)
     have CJ:=Lib.hid cj
     have hba:Below w.heap.size w (w5.alloc (.cells #[.int .i64 1] 3)):=hb.alloc hb.size _
     have HL5:Hid (Below w5.heap.size w5 (w5.alloc (.cells #[.int .i64 1] 3))):=Lib.hid ((Below.refl _ _).alloc (Nat.le_refl _) _)
     clear cj e1 e1' e2 hRz hn6 hn6z hb
     go_upto_region 14 with (first | (go_at_call 70;first | (with_reducible refine (chainR hba CJ.out).mono ?_;clear hba;rintro e w7 ⟨p7,n7,c7,rfl,hs7,hl7,hb⟩;have HS7:=Lib.hid hs7;have HL7:=Lib.hid hl7;clear hs7 hl7) | (refine (chainR hb (joined_sl HS8.out (((hs5.out.2.1.below HL5.out).below HL7.out).below HL8.out) LY1.out LR0.out (-1) (by decide) (by decide) (y.natAbs - x.natAbs % y.natAbs) (by have:=HLE.out;omega))).mono ?_;clear hb;rintro e w10 ⟨p10,n10,c10,rfl,hs10,hl10,hb⟩;have HS10:=Lib.hid hs10;have HL10:=Lib.hid hl10;clear hs10 hl10)) | (go_at_call 68;with_reducible refine (chainR hb (T2.out _)).mono ?_;clear hb;rintro e w8 ⟨p8,n8,c8,rfl,hs8,hl8,hb⟩;have HS8:=Lib.hid hs8;have HL8:=Lib.hid hl8;clear hs8 hl8))
     go_wp2_with (go_at_call 69;first | (with_reducible refine (chain2 hb (made_sl (E.below hb) ((HS7.out.below HL8.out).below HL10.out) LQ1.out DQ1.out _ q E1.out)).mono ?_;clear hb;rintro e w9 ⟨rfl,hb89,hb⟩) | (with_reducible refine (chain hb (made_sl (E.below hb) (HS10.out.below hb89) LR1.out DR1.out _ r E2.out)).mono ?_;clear hb;rintro e wz ⟨rfl,hb⟩))
     go_ret2
     exact ⟨rfl,hb⟩
   · have hz6:mx=true→n6=0:=fun h=>by
       rcases Nat.eq_zero_or_pos n6 with h0 | h0
       · exact h0
       · exact absurd ⟨h,by omega⟩ hA
     have hR9:mx=true→x.natAbs % y.natAbs=0:=fun h=>by
       rw [hz6 h] at hn6
       exact pcN_nil (List.length_eq_zero_iff.1 hn6.symm)
     obtain ⟨e1,e2⟩:=DP.out mx my HMX.out HMY.out hR9
     have E2:Hid (strOf (sgn false (x.natAbs % y.natAbs))=r):=Lib.hid (by rw [sgn_sgI e2,HRE.out])
     cases mx
     · have e1':sgI my (x.natAbs / y.natAbs)=x / y:=by cases my <;> exact e1
       have E1:Hid (strOf (sgn my (x.natAbs / y.natAbs))=q):=Lib.hid (by rw [sgn_sgI e1',HQE.out])
       clear hA hR9 hz6 e1 e1' e2 hn6
       go_wp2_with (go_at_call 69;first | (with_reducible refine (chain2 hb (made_sl (E.below hb) hs5.out.1 LQ0.out DQ0.out _ q E1.out)).mono ?_;clear hb;rintro e w9 ⟨rfl,hb89,hb⟩) | (with_reducible refine (chain hb (made_sl (E.below hb) (hs5.out.2.1.below hb89) LR0.out DR0.out _ r E2.out)).mono ?_;clear hb;rintro e wz ⟨rfl,hb⟩))
       go_ret2
       exact ⟨rfl,hb⟩
     · have e1':sgI (!my) (x.natAbs / y.natAbs)=x / y:=by cases my <;> exact e1
       have E1:Hid (strOf (sgn (!my) (x.natAbs / y.natAbs))=q):=Lib.hid (by rw [sgn_sgI e1',HQE.out])
       have hgt:¬ (0:Int) < (n6:Int):=by have:=hz6 rfl;omega
       have hgb:decide ((0:Int) < (n6:Int))=false:=decide_eq_false hgt
       clear hA hR9 hz6 e1 e1' e2 hn6
       go_wp2_with (go_at_call 69;first | (with_reducible refine (chain2 hb (made_sl (E.below hb) hs5.out.1 LQ0.out DQ0.out _ q E1.out)).mono ?_;clear hb;rintro e w9 ⟨rfl,hb89,hb⟩) | (with_reducible refine (chain hb (made_sl (E.below hb) (hs5.out.2.1.below hb89) LR0.out DR0.out _ r E2.out)).mono ?_;clear hb;rintro e wz ⟨rfl,hb⟩))
       go_ret2
       exact ⟨rfl,hb⟩
theorem refDivMod_any (x y:Int) (w:World) (E:Env w) (hx:dlen x≤9000) (hy:dlen y≤9000) (hyz:y≠0) :
   Calls Tryz.prog 78 #[.string (itoaB x),.string (itoaB y)] w (Ret w (.tuple #[.string (itoaB (x / y)),.string (itoaB (x % y))])):=by
 by_cases h1:dlen x≤17
 · by_cases h2:dlen y≤17
   · exact refDivMod_short x y w E h1 h2 hyz
   · exact refDivMod_long x y x 0 true false w E (Or.inr ⟨rfl,rfl⟩) hx hy hyz (fun w=>brief_short x w h1) (fun w=>brief_long y w (by omega) (by omega))
 · obtain ⟨v2,b2,_,B2⟩:=brief_any y (by omega)
   exact refDivMod_long x y 0 v2 false b2 w E (Or.inl rfl) hx hy hyz (fun w=>brief_long x w (by omega) (by omega)) B2
theorem ten_above (n L:Nat) (h:n < 10 ^ L):n < 10 ^ ((L+1) / 2)*10 ^ ((L+1) / 2):=by
 rw [← Nat.pow_add]
 exact Nat.lt_of_lt_of_le h (Nat.pow_le_pow_right (by decide) (by omega))
theorem itoa_val : ∃ mv:Value→Nat,∀ g:Nat,mv (.string (itoaB (g:Int)))=g:=by
 refine ⟨fun v=>Classical.epsilon (fun g:Nat=>v = .string (itoaB (g:Int))),fun g=>?_⟩
 have:=Classical.epsilon_spec (p:=fun g':Nat=>Value.string (itoaB (g:Int)) = .string (itoaB (g':Int))) ⟨g,rfl⟩
 injection this with h
 have h2:=itoa_inj h
 exact (Int.ofNat.inj h2).symm
theorem dlen_le_pow (g K:Nat) (h:g≤10 ^ K):dlen (g:Int)≤K+1:=by
 unfold dlen
 refine dec_len_le _ _ (Nat.lt_of_le_of_lt h ?_) (by omega)
 exact Nat.pow_lt_pow_right (by decide) (by omega)
theorem itoaB_size_nat (X:Nat):(itoaB (X:Int)).size=dlen (X:Int):=by
 unfold itoaB;rw [strOf_size,itoa_len,if_neg (by omega)];omega
theorem gcd_long (x y:Int) (w:World) (E:Env w) (hs:18 < max ((itoaB x).size:Int) ((itoaB y).size:Int)) (hx:dlen x≤40000) (hy:dlen y≤40000) :
   Calls Tryz.prog 90 #[.string (itoaB x),.string (itoaB y)] w (Ret w (.string (itoaB (Nat.gcd x.natAbs y.natAbs)))):=by
 have k1:∀ w,Calls Tryz.prog 120 #[.string (itoaB x),.string (itoaB y)] w (Ret w (.tuple #[.int .i64 0,.int .i64 0,.bool false])):=fun w=>ints_long _ _ w hs
 have r1:∀ w,Calls Tryz.prog 121 #[.string (itoaB x)] w (RetN w x):=fun w=>read_itoa x w (by omega)
 have r2:∀ w,Calls Tryz.prog 121 #[.string (itoaB y)] w (RetN w y):=fun w=>read_itoa y w (by omega)
 have hlx:(pcM x.natAbs).length≤40000:=by unfold dlen at hx;exact pcM_len_dec x.natAbs 40000 hx
 have hly:(pcM y.natAbs).length≤40000:=by unfold dlen at hy;exact pcM_len_dec y.natAbs 40000 hy
 have hgl:(pcM (Nat.gcd x.natAbs y.natAbs)).length≤100000:=by
   rcases Nat.eq_zero_or_pos x.natAbs with e | e
   · rw [e,Nat.gcd_zero_left];omega
   · have:=pcM_len_mono (Nat.gcd_le_left y.natAbs e);omega
 have HX:Hid ((pcM x.natAbs).length≤80000):=Lib.hid (Nat.le_trans hlx (by decide))
 have HY:Hid ((pcM y.natAbs).length≤80000):=Lib.hid (Nat.le_trans hly (by decide))
 have HGL:=Lib.hid hgl
 have hfld:∀ (b:Bool) (p:Option Addr) (n c:Nat) (w:World),(Instr.field 167 (.agg #[.bool b,.slice p n c]) 1).run Tryz.prog w = .ok (.slice p n c) w:=fun b p n c w=>by kernel_rfl
 obtain ⟨g,hg⟩:∃ g,itoaB ((Nat.gcd x.natAbs y.natAbs:Nat):Int)=g:=⟨_,rfl⟩
 obtain ⟨a,ha⟩:∃ a,itoaB x=a:=⟨_,rfl⟩
 obtain ⟨b,hb'⟩:∃ b,itoaB y=b:=⟨_,rfl⟩
 have HG:=Lib.hid hg
 rw [ha,hb'] at k1
 rw [ha] at r1
 rw [hb'] at r2
 rw [ha,hb',hg]
 have K1:=Lib.hid k1
 have R1:=Lib.hid r1
 have R2:=Lib.hid r2
 clear k1 r1 r2 ha hb' hs hx hy hg hlx hly hgl
 have hb:=Below.refl w.heap.size w
 go_enter Tryz.func90,Tryz.ntmps90
 go_wp2_with (first | (go_at_call 120;refine (chain hb (K1.out _)).mono ?_;clear hb;rintro e w1 ⟨rfl,hb⟩) | (go_at_call 121;first | (with_reducible refine (chainN hb (R1.out _)).mono ?_;clear hb;rintro e w1 ⟨b1,p1,n1,c1,rfl,hs1,hb⟩) | (with_reducible refine (chainN hb (R2.out _)).mono ?_;clear hb;rintro e w2 ⟨b2,p2,n2,c2,rfl,hs2,hb⟩)) | (go_at_call 138;refine (chainM hb (gcd_loop (hs1.out.1.below hs2.out.2.2) hs2.out.1 HX.out HY.out)).mono ?_;clear hb;rintro e w3 ⟨p3,n3,c3,rfl,hs3,hl3,hb⟩;have HS3:=Lib.hid hs3;clear hs3 hl3) | (go_at_call 123;refine (chain hb (text_z (E.below hb) HS3.out (sgI_f _) HGL.out)).mono ?_;clear hb;rintro e w4 ⟨rfl,hb⟩))
 go_ret
 exact ⟨retS HG.out,hb⟩
theorem gcd_any (x y:Int) (w:World) (E:Env w) (hx:dlen x≤40000) (hy:dlen y≤40000) :
   Calls Tryz.prog 90 #[.string (itoaB x),.string (itoaB y)] w (Ret w (.string (itoaB (Nat.gcd x.natAbs y.natAbs)))):=by
 by_cases hs:(itoaB x).size≤18∧(itoaB y).size≤18
 · have bx:=short_bound x hs.1
   have b2:=short_bound y hs.2
   exact gcd_short _ _ w hs.1 hs.2 x y (short_small x hs.1) (short_small y hs.2) E bx.1 bx.2 b2.1 b2.2
 · exact gcd_long x y w E (by omega) hx hy
theorem refGcd_any (x y:Int) (w:World) (E:Env w) (hx:dlen x≤2000) (hy:dlen y≤2000) :
   Calls Tryz.prog 52 #[.string (itoaB x),.string (itoaB y)] w (Ret w (.string (itoaB (Nat.gcd x.natAbs y.natAbs)))):=by
 obtain ⟨mv,hmv⟩:=itoa_val
 have a1:=fun w=>refAbs_any x w
 have a2:=fun w=>refAbs_any y w
 have hdx:dlen (x.natAbs:Int)≤2000:=dlen_nat_le _ x 2000 (by decide) (Nat.le_refl _) hx
 have hdy:dlen (y.natAbs:Int)≤2000:=dlen_nat_le _ y 2000 (by decide) (Nat.le_refl _) hy
 have dm:∀ (X Y:Nat),Y≠0→dlen (X:Int)≤2000→dlen (Y:Int)≤2000→CE 78 #[.string (itoaB (X:Int)),.string (itoaB (Y:Int))] (.tuple #[.string (itoaB ((X / Y:Nat):Int)),.string (itoaB ((X % Y:Nat):Int))]):=fun X Y hY h1 h2 w E=>by
   have:=refDivMod_any (X:Int) (Y:Int) w E (by omega) (by omega) (by omega)
   rwa [← Int.natCast_ediv,← Int.natCast_emod] at this
 obtain ⟨G,hG⟩:∃ G,Nat.gcd x.natAbs y.natAbs=G:=⟨_,rfl⟩
 obtain ⟨X0,hX0⟩:∃ X0,x.natAbs=X0:=⟨_,rfl⟩
 obtain ⟨Y0,hY0⟩:∃ Y0,y.natAbs=Y0:=⟨_,rfl⟩
 rw [hX0,hY0] at hG
 rw [hX0] at hdx
 rw [hY0] at hdy
 rw [hX0,hY0,hG]
 simp only [hX0] at a1
 simp only [hY0] at a2
 obtain ⟨a,ha⟩:∃ a,itoaB x=a:=⟨_,rfl⟩
 obtain ⟨b,hb'⟩:∃ b,itoaB y=b:=⟨_,rfl⟩
 simp only [ha] at a1
 simp only [hb'] at a2
 rw [ha,hb']
 have A1:=Lib.hid a1
 have A2:=Lib.hid a2
 have DM:=Lib.hid dm
 have HMV:=Lib.hid hmv
 have HG:=Lib.hid hG
 clear a1 a2 dm hmv ha hb' hX0 hY0 hx hy hG
 have hb:=Below.refl w.heap.size w
 go_enter Tryz.func52,Tryz.ntmps52
 go_wp2_with (go_at_call 99;first | (with_reducible refine (chain hb (A1.out _)).mono ?_;clear hb;rintro e w1 ⟨rfl,hb⟩) | (with_reducible refine (chain hb (A2.out _)).mono ?_;clear hb;rintro e w1 ⟨rfl,hb⟩))
 have HB:=Lib.hid hb
 clear hb
 go_loopw [0,1] (fun xv yv wr=>∃ X Y:Nat,xv = .string (itoaB (X:Int))∧yv = .string (itoaB (Y:Int))∧dlen (X:Int)≤2000∧dlen (Y:Int)≤2000∧Nat.gcd X Y=G∧Below w.heap.size w wr) (fun _ yv _=>mv yv)
 case atStart=>exact ⟨X0,Y0,rfl,rfl,hdx,hdy,HG.out,HB.out⟩
 case round =>
   obtain ⟨X,Y,rfl,rfl,hdX,hdY,hg,hb⟩:=hrel
   clear HB
   by_cases h0:Y=0
   · subst h0
     have e0:itoaB ((0:Nat):Int)=⟨#[48]⟩:=(itoa_eq_zero 0).2 rfl
     rw [Nat.gcd_zero_right] at hg
     subst hg
     rw [e0]
     go_wp2
     go_ret
     exact ⟨rfl,hb⟩
   · have hz:((itoaB (Y:Int)).toList == [48])=false:=by
       rw [← decide_eq_false (show ¬ (Y:Int)=0 by omega),Bool.eq_iff_iff,beq_iff_eq,decide_eq_true_iff,← itoa_eq_zero,Lib.toList_data]
       exact ⟨fun h=>dat_inj h,fun h=>by rw [h]⟩
     have c1:=DM.out X Y h0 hdX hdY
     have hm1:=HMV.out Y
     have hm2:=HMV.out (X % Y)
     have hlt:=Nat.mod_lt X (Nat.pos_of_ne_zero h0)
     have hgc:Nat.gcd Y (X % Y)=G:=by rw [gcd_step];exact hg
     have hdm:dlen ((X % Y:Nat):Int)≤2000:=dlen_nat_le _ (Y:Int) 2000 (by decide) (by rw [Int.natAbs_natCast];exact Nat.le_of_lt hlt) hdY
     obtain ⟨M,hM⟩:∃ M,X % Y=M:=⟨_,rfl⟩
     rw [hM] at hm2 hgc hdm hlt
     simp only [hM] at c1
     obtain ⟨sx,hsx⟩:∃ sx,itoaB (X:Int)=sx:=⟨_,rfl⟩
     obtain ⟨sy,hsy⟩:∃ sy,itoaB (Y:Int)=sy:=⟨_,rfl⟩
     obtain ⟨sm,hsm⟩:∃ sm,itoaB (M:Int)=sm:=⟨_,rfl⟩
     rw [hsx,hsy]
     rw [hsy] at hz hm1
     rw [hsm] at hm2
     simp only [hsx,hsy,hsm] at c1
     have C1:=Lib.hid c1
     have HSM:=Lib.hid hsm
     have HSY:=Lib.hid hsy
     have HM1:=Lib.hid hm1
     have HM2:=Lib.hid hm2
     clear c1 hsx hsy hsm hm1 hm2 hM hg hdX h0
     go_wp2_with (go_at_call 78;refine (chain hb (C1.out _ (E.below hb))).mono ?_;clear hb;rintro e w1 ⟨rfl,hb⟩)
     exact ⟨⟨Y,M,by rw [HSY.out],by rw [HSM.out],hdY,hdm,hgc,hb⟩,by rw [HM1.out,HM2.out];exact hlt⟩
def qrB (a p:Nat):Bool:=(List.range (p / 2)).any fun i=>(i+1)*(i+1) % p == a
def P14 : List Nat:=[3,5,7,11,13,17,19,23,29,31,37,41,43,47]
def prim (k:Nat):Nat:=P14[k]?.getD 1
def pmK (r:Nat):Nat→Nat
 | 0=>0
 | k+1=>if r % prim k=0 then pmK r k else pmK r k ||| 2 ^ k
def smK (r:Nat):Nat→Nat
 | 0=>0
 | k+1=>if r % prim k=0 then smK r k else if qrB (r % prim k) (prim k) then smK r k ||| 2 ^ k else smK r k
theorem pow_bit (k i:Nat):(2 ^ k).testBit i=decide (k=i):=by
 rw [Nat.testBit_two_pow]
theorem pm_bit (r:Nat):∀ k i,(pmK r k).testBit i=(decide (i < k) && !decide (r % prim i=0)):=by
 intro k
 induction k with
 | zero=>intro i;simp [pmK]
 | succ k ih =>
   intro i
   unfold pmK
   split
   · rename_i h
     rw [ih]
     by_cases e:i=k
     · subst e;simp [h]
     · rw [show decide (i < k+1)=decide (i < k) by rw [decide_eq_decide];omega]
   · rename_i h
     rw [Nat.testBit_or,ih,pow_bit]
     by_cases e:i=k
     · subst e;simp [h]
     · rw [show decide (i < k+1)=decide (i < k) by rw [decide_eq_decide];omega,decide_eq_false (show ¬ k=i by omega),Bool.or_false]
theorem sm_bit (r:Nat):∀ k i,(smK r k).testBit i=(decide (i < k) && (!decide (r % prim i=0) && qrB (r % prim i) (prim i))):=by
 intro k
 induction k with
 | zero=>intro i;simp [smK]
 | succ k ih =>
   intro i
   unfold smK
   by_cases e:i=k
   · subst e
     split
     · rename_i h;rw [ih];simp [h]
     · rename_i h
       split
       · rename_i g;rw [Nat.testBit_or,ih,pow_bit];simp [h,g]
       · rename_i g;rw [ih];simp [h,g]
   · have e1:decide (i < k+1)=decide (i < k):=by rw [decide_eq_decide];omega
     rw [e1]
     split
     · rw [ih]
     · split
       · rw [Nat.testBit_or,ih,pow_bit,decide_eq_false (show ¬ k=i by omega),Bool.or_false]
       · rw [ih]
def sqOk (p:Nat):Bool:=(List.range p).all fun s=>s*s % p == 0 || qrB (s*s % p) p
def prOk (p:Nat):Bool:=(List.range p).all fun x=>(List.range p).all fun y=>x == 0 || y == 0 || (!(x*y % p == 0) && (!qrB (x*y % p) p || qrB x p == qrB y p))
theorem sq_all : (List.range 14).all (fun k=>sqOk (prim k))=true:=by decide +kernel
theorem pr_all : (List.range 14).all (fun k=>prOk (prim k))=true:=by decide +kernel
theorem prim_pos : ∀ k,0 < prim k:=by
 intro k
 by_cases h:k < 14
 · have:(List.range 14).all (fun k=>decide (0 < prim k))=true:=by decide
   rw [List.all_eq_true] at this
   exact of_decide_eq_true (this k (List.mem_range.2 h))
 · have:P14[k]? = none:=List.getElem?_eq_none (by show 14≤k;omega)
   unfold prim
   rw [this];decide
theorem qr_of_sq {k s:Nat} (hk:k < 14) (h:s*s % prim k≠0):qrB (s*s % prim k) (prim k)=true:=by
 have h1:=List.all_eq_true.1 sq_all k (List.mem_range.2 hk)
 have h2:=List.all_eq_true.1 h1 (s % prim k) (List.mem_range.2 (Nat.mod_lt _ (prim_pos k)))
 rw [← Nat.mul_mod] at h2
 simpa [h] using h2
theorem qr_of_pr {k x y:Nat} (hk:k < 14) (hx:x % prim k≠0) (hy:y % prim k≠0):x*y % prim k≠0∧(qrB (x*y % prim k) (prim k)=true→qrB (x % prim k) (prim k)=qrB (y % prim k) (prim k)):=by
 have h1:=List.all_eq_true.1 pr_all k (List.mem_range.2 hk)
 have h2:=List.all_eq_true.1 (List.all_eq_true.1 h1 (x % prim k) (List.mem_range.2 (Nat.mod_lt _ (prim_pos k)))) (y % prim k) (List.mem_range.2 (Nat.mod_lt _ (prim_pos k)))
 rw [← Nat.mul_mod] at h2
 simp [hx,hy] at h2
 refine ⟨h2.1,fun hq=>?_⟩
 rcases h2.2 with h | h
 · rw [hq] at h;cases h
 · exact h
theorem mark_sq {r s:Nat} (h:s*s=r):pmK r 14=smK r 14:=by
 apply Nat.eq_of_testBit_eq
 intro i
 rw [pm_bit,sm_bit]
 by_cases hi:i < 14
 · by_cases h0:r % prim i=0
   · simp [h0]
   · subst h
     simp [h0,qr_of_sq hi h0]
 · simp [hi]
theorem mark_alike {a b s:Nat} (h:s*s=a*b):pmK a 14 &&& pmK b 14 &&& (smK a 14 ^^^ smK b 14)=0:=by
 apply Nat.eq_of_testBit_eq
 intro i
 rw [Nat.testBit_and,Nat.testBit_and,Nat.testBit_xor,pm_bit,pm_bit,sm_bit,sm_bit,Nat.zero_testBit]
 by_cases hi:i < 14
 · by_cases h0:a % prim i=0
   · simp [h0]
   · by_cases h1:b % prim i=0
     · simp [h1]
     · obtain ⟨g1,g2⟩:=qr_of_pr hi h0 h1
       rw [← h] at g1 g2
       have:=g2 (qr_of_sq hi g1)
       simp [h0,h1,this]
 · simp [hi]
theorem pmK_lt (r:Nat):∀ k,pmK r k < 2 ^ k:=by
 intro k
 induction k with
 | zero=>simp [pmK]
 | succ k ih =>
   unfold pmK
   have h2:2 ^ k < 2 ^ (k+1):=Nat.pow_lt_pow_of_lt (by decide) (by omega)
   split
   · omega
   · exact Nat.or_lt_two_pow (by omega) h2
theorem smK_lt (r:Nat):∀ k,smK r k < 2 ^ k:=by
 intro k
 induction k with
 | zero=>simp [smK]
 | succ k ih =>
   unfold smK
   have h2:2 ^ k < 2 ^ (k+1):=Nat.pow_lt_pow_of_lt (by decide) (by omega)
   split
   · omega
   · split
     · exact Nat.or_lt_two_pow (by omega) h2
     · omega
abbrev Tm := Rat × Nat
end Go.Proofs.YtpphjnekkjeacaaGreatDoor.Kl
