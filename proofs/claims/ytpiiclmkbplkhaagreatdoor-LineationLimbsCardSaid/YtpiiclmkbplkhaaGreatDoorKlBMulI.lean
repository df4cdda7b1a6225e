import Derived.Deep.RegionHeld3
import Derived.Test.YtpiiclmkbplkhaaGreatDoorKlBAddI
namespace Go.Proofs.YtpiiclmkbplkhaaGreatDoor.Kl
open Go Go.RowKit
set_option maxRecDepth 100000
set_option maxHeartbeats 8000000
theorem sgI_mul {b1 b2:Bool} {X Y:Nat} {x y:Int} (h1:sgI b1 X=x) (h2:sgI b2 Y=y):sgI (b1 != b2) (X*Y)=x*y:=by
 subst h1 h2
 cases b1 <;> cases b2
 · show ((X*Y:Nat):Int)=(X:Int)*Y;rw [Int.natCast_mul]
 · show -((X*Y:Nat):Int)=(X:Int) * -(Y:Int);rw [Int.natCast_mul,Int.mul_neg]
 · show -((X*Y:Nat):Int) = -(X:Int)*(Y:Int);rw [Int.natCast_mul,Int.neg_mul]
 · show ((X*Y:Nat):Int) = -(X:Int) * -(Y:Int);rw [Int.natCast_mul,Int.neg_mul_neg]
theorem dec_mul_len (K M N X:Nat) (hK:0 < K+M) (h1:(Lib.decDigits N).length≤K) (h2:(Lib.decDigits X).length≤M):(Lib.decDigits (N*X)).length≤K+M:=by
 refine dec_len_le _ _ ?_ hK
 have a:=Nat.lt_of_lt_of_le (dig_lt N) (Nat.pow_le_pow_right (by decide) h1)
 have b:=Nat.lt_of_lt_of_le (dig_lt X) (Nat.pow_le_pow_right (by decide) h2)
 rw [Nat.pow_add]
 exact Nat.mul_lt_mul'' a b
theorem dlen_mul (x y:Int) (K M:Nat) (hK:0 < K+M) (hx:dlen x≤K) (hy:dlen y≤M):dlen (x*y)≤K+M:=by
 unfold dlen at *;rw [Int.natAbs_mul];exact dec_mul_len K M _ _ hK hx hy
theorem mul_long (x y:Int) (w:World) (E:Env w) (hs:18 < (itoaB x).size+(itoaB y).size) (hx:dlen x≤40000) (hy:dlen y≤40000) :
   Calls Tryz.prog 97 #[.string (itoaB x),.string (itoaB y)] w (Ret w (.string (itoaB (x*y)))):=by
 have hm:(18:Int) < (itoaB x).size+(itoaB y).size:=by omega
 have hza:(itoaB x).size≤100001:=itoaB_size x (by omega)
 have hzb:(itoaB y).size≤100001:=itoaB_size y (by omega)
 have r1:∀ w,Calls Tryz.prog 107 #[.string (itoaB x)] w (RetN w x):=fun w=>read_itoa x w (by omega)
 have r2:∀ w,Calls Tryz.prog 107 #[.string (itoaB y)] w (RetN w y):=fun w=>read_itoa y w (by omega)
 have HX:=Lib.hid (pcM_len_z x (by omega))
 have HY:=Lib.hid (pcM_len_z y (by omega))
 have HZ:Hid ((pcM (x.natAbs*y.natAbs)).length≤100000):=Lib.hid (by
   have:=pcM_len_z (x*y) (by have:=dlen_mul x y 40000 40000 (by decide) hx hy;omega);rwa [Int.natAbs_mul] at this)
 obtain ⟨a,ha⟩:∃ a,itoaB x=a:=⟨_,rfl⟩
 obtain ⟨b,hb'⟩:∃ b,itoaB y=b:=⟨_,rfl⟩
 rw [ha] at r1
 rw [hb'] at r2
 rw [ha,hb'] at hm ⊢
 rw [ha] at hza
 rw [hb'] at hzb
 have R1:=Lib.hid r1
 have R2:=Lib.hid r2
 clear r1 r2 ha hb' hs hx hy
 have hb:=Below.refl w.heap.size w
 go_enter Tryz.func97,Tryz.ntmps97
 go_wp2_with (first | (go_at_call 107;first | (with_reducible refine (chainN hb (R1.out _)).mono ?_;clear hb;rintro e w1 ⟨b1,p1,n1,c1,rfl,hs1,hb⟩) | (with_reducible refine (chainN hb (R2.out _)).mono ?_;clear hb;rintro e w2 ⟨b2,p2,n2,c2,rfl,hs2,hb⟩)))
 obtain ⟨W3,hW3⟩:∃ W3,(w2.alloc (Obj.cells #[Value.bool b1,Value.slice p1 n1 c1] 137)).alloc (Obj.cells #[Value.bool b2,Value.slice p2 n2 c2] 137)=W3:=⟨_,rfl⟩
 have hs3:W3.heap.size=w2.heap.size+2:=by rw [← hW3];simp only [World.size_alloc]
 have k0:W3.heap[w2.heap.size]? = some (Obj.cells #[Value.bool b1,Value.slice p1 n1 c1] 137 (0,0)):=by rw [← hW3,Below.heap_alloc _ _ _ (by simp)];exact World.alloc_heap_new w2 _
 have k1:W3.heap[w2.heap.size+1]? = some (Obj.cells #[Value.bool b2,Value.slice p2 n2 c2] 137 (0,0)):=by
   rw [← hW3]
   have:=World.alloc_heap_new (w2.alloc (Obj.cells #[Value.bool b1,Value.slice p1 n1 c1] 137)) (Obj.cells #[Value.bool b2,Value.slice p2 n2 c2] 137)
   rwa [World.size_alloc] at this
 have hb23:Below w2.heap.size w2 W3:=by rw [← hW3];exact ((Below.refl _ _).alloc (Nat.le_refl _) _).alloc (by simp) _
 have hb3:Below w.heap.size w W3:=hb.trans (hb23.mono hb.size)
 rw [hW3]
 clear hW3
 have f0:W3.cell? ⟨w2.heap.size,0,none⟩=some (Value.bool b1):=zA k0
 have f1:W3.cell? ⟨w2.heap.size,1,none⟩=some (Value.slice p1 n1 c1):=zA k0
 have f2:W3.cell? ⟨w2.heap.size+1,0,none⟩=some (Value.bool b2):=zA k1
 have f3:W3.cell? ⟨w2.heap.size+1,1,none⟩=some (Value.slice p2 n2 c2):=zA k1
 have hsx:=hs1.out
 have hsy:=hs2.out
 have ct:Calls Tryz.prog 124 #[.slice p1 n1 c1,.slice p2 n2 c2] W3.drew (RetP W3.drew (pcM (x.natAbs*y.natAbs))):=
   times_sm (((hsx.1.below hsy.2.2).below hb23).below (Below.refl _ _).drew) ((hsy.1.below hb23).below (Below.refl _ _).drew) HX.out HY.out
 have CT:=Lib.hid ct
 have SG:=Lib.hid (sgI_mul hsx.2.1 hsy.2.1)
 have HB3:=Lib.hid hb3
 have HS3:=Lib.hid hs3
 clear ct hsx hsy hs1 hs2 hb hb23 hb3 hs3 k0 k1 R1 R2
 go_region_held3 (fun w' => w'.cell? ⟨w2.heap.size,0,none⟩=some (Value.bool b1)∧w'.cell? ⟨w2.heap.size,1,none⟩=some (Value.slice p1 n1 c1)∧w'.cell? ⟨w2.heap.size+1,0,none⟩=some (Value.bool b2)∧w'.cell? ⟨w2.heap.size+1,1,none⟩=some (Value.slice p2 n2 c2))
   (first | go_keep | exact ⟨g0,g1,g2,g3⟩ | exact ⟨i0,i1,i2,i3⟩)
   (first | (go_at_call 124;refine CT.out.mono ?_;rintro e w5 ⟨r5,n5,c5,rfl,hr5⟩;have hb5:=hr5.2.2.2.2.2;have HR:=Lib.hid hr5;clear hr5;have g0:=(hb5.cell (p:=⟨w2.heap.size,0,none⟩) (by have:=HS3.out;show w2.heap.size < W3.heap.size;omega)).trans f0;have g1:=(hb5.cell (p:=⟨w2.heap.size,1,none⟩) (by have:=HS3.out;show w2.heap.size < W3.heap.size;omega)).trans f1;have g2:=(hb5.cell (p:=⟨w2.heap.size+1,0,none⟩) (by have:=HS3.out;show w2.heap.size+1 < W3.heap.size;omega)).trans f2;have g3:=(hb5.cell (p:=⟨w2.heap.size+1,1,none⟩) (by have:=HS3.out;show w2.heap.size+1 < W3.heap.size;omega)).trans f3;have HB5:Hid (Below w.heap.size w w5):=Lib.hid (HB3.out.drew.trans (hb5.mono (by exact HB3.out.size)));have HZ5:Hid (w2.heap.size+2≤w5.heap.size):=Lib.hid (by have h1:=hb5.size;have h2:=HS3.out;change W3.heap.size≤_ at h1;omega);clear hb5) | (go_at_call 109;refine (text_z (E.below HB5.out) (⟨HR.out.1,HR.out.2.1,HR.out.2.2.1,HR.out.2.2.2.1,HR.out.2.2.2.2.1⟩:Sm w5 r5 n5 c5 _) SG.out HZ.out).mono ?_;rintro e w6 ⟨rfl,hb6⟩;have i0:=(hb6.cell (p:=⟨w2.heap.size,0,none⟩) (by have:=HZ5.out;show w2.heap.size < w5.heap.size;omega)).trans g0;have i1:=(hb6.cell (p:=⟨w2.heap.size,1,none⟩) (by have:=HZ5.out;show w2.heap.size < w5.heap.size;omega)).trans g1;have i2:=(hb6.cell (p:=⟨w2.heap.size+1,0,none⟩) (by have:=HZ5.out;show w2.heap.size+1 < w5.heap.size;omega)).trans g2;have i3:=(hb6.cell (p:=⟨w2.heap.size+1,1,none⟩) (by have:=HZ5.out;show w2.heap.size+1 < w5.heap.size;omega)).trans g3;have HB6:Hid (Below w.heap.size w w6):=Lib.hid (HB5.out.trans (hb6.mono HB5.out.size));clear hb6))
 go_wp2
 go_ret
 exact ⟨rfl,HB6.out⟩
theorem mul_any (x y:Int) (w:World) (E:Env w) (hx:dlen x≤40000) (hy:dlen y≤40000) :
   Calls Tryz.prog 97 #[.string (itoaB x),.string (itoaB y)] w (Ret w (.string (itoaB (x*y)))):=by
 by_cases hs:(itoaB x).size+(itoaB y).size≤18
 · have bx:dlen x+dlen y≤18:=by
     have h1:=itoa_len x;have h2:=itoa_len y
     unfold itoaB at hs;rw [strOf_size,strOf_size] at hs;omega
   have hp:=dlen_mul x y (dlen x) (dlen y) (by have:=List.length_pos_iff.2 (decDigits_ne x.natAbs);unfold dlen;omega) (Nat.le_refl _) (Nat.le_refl _)
   have h2:(x*y).natAbs < 10 ^ 18:=Nat.lt_of_lt_of_le (dig_lt _) (Nat.pow_le_pow_right (by decide) (by unfold dlen at hp bx;omega))
   have h3:(x*y).natAbs < 1000000000000000000:=h2
   exact mul_short _ _ w hs x y (short_small x (by omega)) (short_small y (by omega)) E (by omega) (by omega)
 · exact mul_long x y w E (by omega) hx hy
end Go.Proofs.YtpiiclmkbplkhaaGreatDoor.Kl
