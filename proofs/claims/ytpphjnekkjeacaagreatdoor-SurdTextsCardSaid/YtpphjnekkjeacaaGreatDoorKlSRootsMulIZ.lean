import Derived.Deep.RegionHeld3
import Derived.Test.YtpphjnekkjeacaaGreatDoorKlSRootsAddI
namespace Go.Proofs.YtpphjnekkjeacaaGreatDoor.Kl
open Go Go.RowKit
set_option maxRecDepth 100000
set_option maxHeartbeats 8000000
theorem sgI_mul {b1 b2:Bool} {X Y:Nat} {x y:Int} (h1:sgI b1 X=x) (h2:sgI b2 Y=y):sgI (b1 != b2) (X*Y)=x*y:=by
 subst h1 h2
 cases b1 <;> cases b2
 · show ((X*Y:Nat):Int)=(X:Int)*Y;rw [Int.natCast_mul]
 · show -((X*Y:Nat):Int)=(X:Int) * -(Y:Int);rw [Int.natCast_mul,Int.mul_neg]
 · show -((X*Y:Nat):Int) = -(X:Int)*(Y:Int);rw [Int.natCast_mul,Int.neg_mul]
 · show ((X*Y:Nat):Int) = -(X:Int) * -(Y:Int);rw [Int.natCast_mul,Int.neg_mul_neg]
theorem dec_mul_len (K M N X:Nat) (hK:0 < K+M) (h1:(Lib.decDigits N).length≤K) (h2:(Lib.decDigits X).length≤M):(Lib.decDigits (N*X)).length≤K+M:=by
 refine dec_len_le _ _ ?_ hK
 have a:=Nat.lt_of_lt_of_le (dig_lt N) (Nat.pow_le_pow_right (by decide) h1)
 have b:=Nat.lt_of_lt_of_le (dig_lt X) (Nat.pow_le_pow_right (by decide) h2)
 rw [Nat.pow_add]
 exact Nat.mul_lt_mul'' a b
theorem dlen_mul (x y:Int) (K M:Nat) (hK:0 < K+M) (hx:dlen x≤K) (hy:dlen y≤M):dlen (x*y)≤K+M:=by
 unfold dlen at *;rw [Int.natAbs_mul];exact dec_mul_len K M _ _ hK hx hy
theorem mul_long (x y:Int) (w:World) (E:Env w) (hs:18 < (itoaB x).size+(itoaB y).size) (hx:dlen x≤40000) (hy:dlen y≤40000) :
   Calls Tryz.prog 96 #[.string (itoaB x),.string (itoaB y)] w (Ret w (.string (itoaB (x*y)))):=by
 have hm:(18:Int) < (itoaB x).size+(itoaB y).size:=by omega
 have hza:(itoaB x).size≤100001:=itoaB_size x (by omega)
 have hzb:(itoaB y).size≤100001:=itoaB_size y (by omega)
 have r1:∀ w,Calls Tryz.prog 121 #[.string (itoaB x)] w (RetN w x):=fun w=>read_itoa x w (by omega)
 have r2:∀ w,Calls Tryz.prog 121 #[.string (itoaB y)] w (RetN w y):=fun w=>read_itoa y w (by omega)
 have HX:=Lib.hid (pcM_len_z x (by omega))
 have HY:=Lib.hid (pcM_len_z y (by omega))
 have HZ:Hid ((pcM (x.natAbs*y.natAbs)).length≤100000):=Lib.hid (by
   have:=pcM_len_z (x*y) (by have:=dlen_mul x y 40000 40000 (by decide) hx hy;omega);rwa [Int.natAbs_mul] at this)
 obtain ⟨a,ha⟩:∃ a,itoaB x=a:=⟨_,rfl⟩
 obtain ⟨b,hb'⟩:∃ b,itoaB y=b:=⟨_,rfl⟩
 rw [ha] at r1
 rw [hb'] at r2
 rw [ha,hb'] at hm ⊢
 rw [ha] at hza
 rw [hb'] at hzb
 have R1:=Lib.hid r1
 have R2:=Lib.hid r2
 clear r1 r2 ha hb' hs hx hy
 have hb:=Below.refl w.heap.size w
 go_enter Tryz.func96,Tryz.ntmps96
 go_wp2_with (first | (go_at_call 121;first | (with_reducible refine (chainN hb (R1.out _)).mono ?_;clear hb;rintro e w1 ⟨b1,p1,n1,c1,rfl,hs1,hb⟩) | (with_reducible refine (chainN hb (R2.out _)).mono ?_;clear hb;rintro e w2 ⟨b2,p2,n2,c2,rfl,hs2,hb⟩)))
 obtain ⟨W3,hW3⟩:∃ W3,(w2.alloc (Obj.cells #[Value.bool b1,Value.slice p1 n1 c1] 167)).alloc (Obj.cells #[Value.bool b2,Value.slice p2 n2 c2] 167)=W3:=⟨_,rfl⟩
 have hs3:W3.heap.size=w2.heap.size+2:=by rw [← hW3];simp only [World.size_alloc]
 have k0:W3.heap[w2.heap.size]? = some (Obj.cells #[Value.bool b1,Value.slice p1 n1 c1] 167 (0,0)):=by rw [← hW3,Below.heap_alloc _ _ _ (by simp)];exact World.alloc_heap_new w2 _
 have k1:W3.heap[w2.heap.size+1]? = some (Obj.cells #[Value.bool b2,Value.slice p2 n2 c2] 167 (0,0)):=by
   rw [← hW3]
   have:=World.alloc_heap_new (w2.alloc (Obj.cells #[Value.bool b1,Value.slice p1 n1 c1] 167)) (Obj.cells #[Value.bool b2,Value.slice p2 n2 c2] 167)
   rwa [World.size_alloc] at this
 have hb23:Below w2.heap.size w2 W3:=by rw [← hW3];exact ((Below.refl _ _).alloc (Nat.le_refl _) _).alloc (by simp) _
 have hb3:Below w.heap.size w W3:=hb.trans (hb23.mono hb.size)
 rw [hW3]
 clear hW3
 have f0:W3.cell? ⟨w2.heap.size,0,none⟩=some (Value.bool b1):=zA k0
 have f1:W3.cell? ⟨w2.heap.size,1,none⟩=some (Value.slice p1 n1 c1):=zA k0
 have f2:W3.cell? ⟨w2.heap.size+1,0,none⟩=some (Value.bool b2):=zA k1
 have f3:W3.cell? ⟨w2.heap.size+1,1,none⟩=some (Value.slice p2 n2 c2):=zA k1
 have hsx:=hs1.out
 have hsy:=hs2.out
 have ct:Calls Tryz.prog 141 #[.slice p1 n1 c1,.slice p2 n2 c2] W3.drew (RetP W3.drew (pcM (x.natAbs*y.natAbs))):=
   times_sm (((hsx.1.below hsy.2.2).below hb23).below (Below.refl _ _).drew) ((hsy.1.below hb23).below (Below.refl _ _).drew) HX.out HY.out
 have CT:=Lib.hid ct
 have SG:=Lib.hid (sgI_mul hsx.2.1 hsy.2.1)
 have HB3:=Lib.hid hb3
 have HS3:=Lib.hid hs3
 clear ct hsx hsy hs1 hs2 hb hb23 hb3 hs3 k0 k1 R1 R2
 go_region_held3 (fun w' => w'.cell? ⟨w2.heap.size,0,none⟩=some (Value.bool b1)∧w'.cell? ⟨w2.heap.size,1,none⟩=some (Value.slice p1 n1 c1)∧w'.cell? ⟨w2.heap.size+1,0,none⟩=some (Value.bool b2)∧w'.cell? ⟨w2.heap.size+1,1,none⟩=some (Value.slice p2 n2 c2))
   (first | go_keep | exact ⟨g0,g1,g2,g3⟩ | exact ⟨i0,i1,i2,i3⟩)
   (first | (go_at_call 141;refine CT.out.mono ?_;rintro e w5 ⟨r5,n5,c5,rfl,hr5⟩;have hb5:=hr5.2.2.2.2.2;have HR:=Lib.hid hr5;clear hr5;have g0:=(hb5.cell (p:=⟨w2.heap.size,0,none⟩) (by have:=HS3.out;show w2.heap.size < W3.heap.size;omega)).trans f0;have g1:=(hb5.cell (p:=⟨w2.heap.size,1,none⟩) (by have:=HS3.out;show w2.heap.size < W3.heap.size;omega)).trans f1;have g2:=(hb5.cell (p:=⟨w2.heap.size+1,0,none⟩) (by have:=HS3.out;show w2.heap.size+1 < W3.heap.size;omega)).trans f2;have g3:=(hb5.cell (p:=⟨w2.heap.size+1,1,none⟩) (by have:=HS3.out;show w2.heap.size+1 < W3.heap.size;omega)).trans f3;have HB5:Hid (Below w.heap.size w w5):=Lib.hid (HB3.out.drew.trans (hb5.mono (by exact HB3.out.size)));have HZ5:Hid (w2.heap.size+2≤w5.heap.size):=Lib.hid (by have h1:=hb5.size;have h2:=HS3.out;change W3.heap.size≤_ at h1;omega);clear hb5) | (go_at_call 123;refine (text_z (E.below HB5.out) (⟨HR.out.1,HR.out.2.1,HR.out.2.2.1,HR.out.2.2.2.1,HR.out.2.2.2.2.1⟩:Sm w5 r5 n5 c5 _) SG.out HZ.out).mono ?_;rintro e w6 ⟨rfl,hb6⟩;have i0:=(hb6.cell (p:=⟨w2.heap.size,0,none⟩) (by have:=HZ5.out;show w2.heap.size < w5.heap.size;omega)).trans g0;have i1:=(hb6.cell (p:=⟨w2.heap.size,1,none⟩) (by have:=HZ5.out;show w2.heap.size < w5.heap.size;omega)).trans g1;have i2:=(hb6.cell (p:=⟨w2.heap.size+1,0,none⟩) (by have:=HZ5.out;show w2.heap.size+1 < w5.heap.size;omega)).trans g2;have i3:=(hb6.cell (p:=⟨w2.heap.size+1,1,none⟩) (by have:=HZ5.out;show w2.heap.size+1 < w5.heap.size;omega)).trans g3;have HB6:Hid (Below w.heap.size w w6):=Lib.hid (HB5.out.trans (hb6.mono HB5.out.size));clear hb6))
 go_wp2
 go_ret
 exact ⟨rfl,HB6.out⟩
theorem mul_any (x y:Int) (w:World) (E:Env w) (hx:dlen x≤40000) (hy:dlen y≤40000) :
   Calls Tryz.prog 96 #[.string (itoaB x),.string (itoaB y)] w (Ret w (.string (itoaB (x*y)))):=by
 by_cases hs:(itoaB x).size+(itoaB y).size≤18
 · have bx:dlen x+dlen y≤18:=by
     have h1:=itoa_len x;have h2:=itoa_len y
     unfold itoaB at hs;rw [strOf_size,strOf_size] at hs;omega
   have hp:=dlen_mul x y (dlen x) (dlen y) (by have:=List.length_pos_iff.2 (decDigits_ne x.natAbs);unfold dlen;omega) (Nat.le_refl _) (Nat.le_refl _)
   have h2:(x*y).natAbs < 10 ^ 18:=Nat.lt_of_lt_of_le (dig_lt _) (Nat.pow_le_pow_right (by decide) (by unfold dlen at hp bx;omega))
   have h3:(x*y).natAbs < 1000000000000000000:=h2
   exact mul_short _ _ w hs x y (short_small x (by omega)) (short_small y (by omega)) E (by omega) (by omega)
 · exact mul_long x y w E (by omega) hx hy
theorem neg_mul (x y:Int) (h:0 < x.natAbs*y.natAbs):(!(decide (x < 0) == decide (y < 0)))=decide (x*y < 0):=by
 have hx:x≠0:=fun e=>by rw [e] at h;simp at h
 have hy:y≠0:=fun e=>by rw [e] at h;simp at h
 rcases Int.lt_or_gt_of_ne hx with h1 | h1 <;> rcases Int.lt_or_gt_of_ne hy with h2 | h2
 · have:=Int.mul_pos_of_neg_of_neg h1 h2
   rw [decide_eq_true h1,decide_eq_true h2,decide_eq_false (by omega)];rfl
 · have:=Int.mul_neg_of_neg_of_pos h1 h2
   rw [decide_eq_true h1,decide_eq_false (by omega),decide_eq_true (by omega)];rfl
 · have:=Int.mul_neg_of_pos_of_neg h1 h2
   rw [decide_eq_false (by omega),decide_eq_true h2,decide_eq_true (by omega)];rfl
 · have:=Int.mul_pos h1 h2
   rw [decide_eq_false (by omega),decide_eq_false (by omega),decide_eq_false (by omega)];rfl
theorem refMul_short (x y:Int) (w:World) (E:Env w) (h:dlen x+dlen y≤18) :
   Calls Tryz.prog 44 #[.string (itoaB x),.string (itoaB y)] w (Ret w (.string (itoaB (x*y)))):=by
 have px:0 < dlen x:=List.length_pos_iff.2 (decDigits_ne x.natAbs)
 have hp:=dlen_mul x y (dlen x) (dlen y) (by omega) (Nat.le_refl _) (Nat.le_refl _)
 have h2:(x*y).natAbs < 10 ^ 18:=Nat.lt_of_lt_of_le (dig_lt _) (Nat.pow_le_pow_right (by decide) (by unfold dlen at hp h;omega))
 have h3:(x*y).natAbs < 1000000000000000000:=h2
 have h4':x.natAbs < 10 ^ 18:=Nat.lt_of_lt_of_le (dig_lt _) (Nat.pow_le_pow_right (by decide) (by unfold dlen at h;omega))
 have h4:x.natAbs < 1000000000000000000:=h4'
 have h5':y.natAbs < 10 ^ 18:=Nat.lt_of_lt_of_le (dig_lt _) (Nat.pow_le_pow_right (by decide) (by unfold dlen at h;omega))
 have h5:y.natAbs < 1000000000000000000:=h5'
 have s1:∀ w,Calls Tryz.prog 67 #[.string (itoaB x)] w (Ret w (.tuple #[.bool (decide (x < 0)),.string (magB (itoaB x))])):=fun w=>split_any _ w _ (neg_itoaB x)
 have s2:∀ w,Calls Tryz.prog 67 #[.string (itoaB y)] w (Ret w (.tuple #[.bool (decide (y < 0)),.string (magB (itoaB y))])):=fun w=>split_any _ w _ (neg_itoaB y)
 have c1:∀ w,Calls Tryz.prog 85 #[.string (itoaB x)] w (Ret w (.tuple #[.int .i64 x,.bool true])):=fun w=>by
   have:=refSmall_any (itoaB x) w (by have:=itoaB_size x (by omega);omega) (canon_itoa x)
   rwa [show smI (itoaB x).data.toList=x by unfold smI;rw [itoaB_data,smallV_itoa x (by omega) (by omega)];rfl,show smB (itoaB x).data.toList=true by unfold smB;rw [itoaB_data,smallV_itoa x (by omega) (by omega)];rfl] at this
 have c2:∀ w,Calls Tryz.prog 85 #[.string (itoaB y)] w (Ret w (.tuple #[.int .i64 y,.bool true])):=fun w=>by
   have:=refSmall_any (itoaB y) w (by have:=itoaB_size y (by omega);omega) (canon_itoa y)
   rwa [show smI (itoaB y).data.toList=y by unfold smI;rw [itoaB_data,smallV_itoa y (by omega) (by omega)];rfl,show smB (itoaB y).data.toList=true by unfold smB;rw [itoaB_data,smallV_itoa y (by omega) (by omega)];rfl] at this
 have o1:CE 37 #[.int .i64 (x*y)] (.string (itoaB (x*y))):=fun w E=>refOf_any (x*y) (by omega) (by omega) w E
 have hsz:((magB (itoaB x)).size:Int)+(magB (itoaB y)).size≤18:=by rw [magB_dlen,magB_dlen];omega
 have hz1:(magB (itoaB x)).size≤18:=by omega
 have hz2:(magB (itoaB y)).size≤18:=by omega
 obtain ⟨mx,hmx⟩:∃ v,decide (x < 0)=v:=⟨_,rfl⟩
 obtain ⟨my,hmy⟩:∃ v,decide (y < 0)=v:=⟨_,rfl⟩
 obtain ⟨sx,hsx⟩:∃ v,magB (itoaB x)=v:=⟨_,rfl⟩
 obtain ⟨sy,hsy⟩:∃ v,magB (itoaB y)=v:=⟨_,rfl⟩
 obtain ⟨r,hr⟩:∃ v,itoaB (x*y)=v:=⟨_,rfl⟩
 obtain ⟨a,ha⟩:∃ v,itoaB x=v:=⟨_,rfl⟩
 obtain ⟨b,hb0⟩:∃ v,itoaB y=v:=⟨_,rfl⟩
 rw [hsx] at s1 hsz hz1
 rw [hsy] at s2 hsz hz2
 rw [hmx] at s1
 rw [hmy] at s2
 rw [hr] at o1 ⊢
 rw [ha] at s1 c1 ⊢
 rw [hb0] at s2 c2 ⊢
 have S1:=Lib.hid s1
 have S2:=Lib.hid s2
 have C1:=Lib.hid c1
 have C2:=Lib.hid c2
 have O1:=Lib.hid o1
 have ew:IntKind.i64.wrap (x*y)=x*y:=IntWalk.i64_in _ (by omega)
 clear s1 s2 c1 c2 o1 hmx hmy hsx hsy hr ha hb0 h hp h2 h3 h4 h5 h4' h5' px
 have hb:=Below.refl w.heap.size w
 go_enter Tryz.func44,Tryz.ntmps44
 go_wp2_with (first | (go_at_call 67;first | (with_reducible refine (chain hb (S1.out _)).mono ?_;clear hb;rintro e w1 ⟨rfl,hb⟩) | (with_reducible refine (chain hb (S2.out _)).mono ?_;clear hb;rintro e w1 ⟨rfl,hb⟩)) | (go_at_call 85;first | (with_reducible refine (chain hb (C1.out _)).mono ?_;clear hb;rintro e w1 ⟨rfl,hb⟩) | (with_reducible refine (chain hb (C2.out _)).mono ?_;clear hb;rintro e w1 ⟨rfl,hb⟩)) | (go_at_call 37;(try rw [ew]);refine (chain hb (O1.out _ (E.below hb))).mono ?_;clear hb;rintro e w1 ⟨rfl,hb⟩))
 go_ret
 exact ⟨rfl,hb⟩
theorem refMul_long (x y:Int) (w:World) (E:Env w) (h:18 < dlen x+dlen y) (hx:dlen x≤9000) (hy:dlen y≤9000) :
   Calls Tryz.prog 44 #[.string (itoaB x),.string (itoaB y)] w (Ret w (.string (itoaB (x*y)))):=by
 have s1:∀ w,Calls Tryz.prog 67 #[.string (itoaB x)] w (Ret w (.tuple #[.bool (decide (x < 0)),.string (magB (itoaB x))])):=fun w=>split_any _ w _ (neg_itoaB x)
 have s2:∀ w,Calls Tryz.prog 67 #[.string (itoaB y)] w (Ret w (.tuple #[.bool (decide (y < 0)),.string (magB (itoaB y))])):=fun w=>split_any _ w _ (neg_itoaB y)
 have t1:∀ w,Calls Tryz.prog 68 #[.string (magB (itoaB x))] w (RetP w (pcN x.natAbs)):=fun w=>take_itoa x w (by omega)
 have t2:∀ w,Calls Tryz.prog 68 #[.string (magB (itoaB y))] w (RetP w (pcN y.natAbs)):=fun w=>take_itoa y w (by omega)
 have hsz:(18:Int) < ((magB (itoaB x)).size:Int)+(magB (itoaB y)).size:=by rw [magB_dlen,magB_dlen];omega
 have hz1:(magB (itoaB x)).size≤9000:=by rw [magB_dlen];omega
 have hz2:(magB (itoaB y)).size≤9000:=by rw [magB_dlen];omega
 have lx:(pcN x.natAbs).length≤9000:=pcN_len_dec _ _ (by unfold dlen at hx;exact hx)
 have ly:(pcN y.natAbs).length≤9000:=pcN_len_dec _ _ (by unfold dlen at hy;exact hy)
 have hd:(Lib.decDigits (x.natAbs*y.natAbs)).length≤18000:=dec_mul_len 9000 9000 _ _ (by decide) (by unfold dlen at hx;exact hx) (by unfold dlen at hy;exact hy)
 have lz:(pcN (x.natAbs*y.natAbs)).length≤100000:=by have:=pcN_len_dec _ _ hd;omega
 have hres:strOf (sgn (!(decide (x < 0) == decide (y < 0))) (x.natAbs*y.natAbs))=itoaB (x*y):=by
   unfold itoaB;rw [sgn_of (x*y) _ _ (by rw [Int.natAbs_mul]) (fun h0=>neg_mul x y h0)]
 have LX:=Lib.hid lx
 have LY:=Lib.hid ly
 have LZ:=Lib.hid lz
 have HD:Hid ((Lib.decDigits (x.natAbs*y.natAbs)).length≤1000000):=Lib.hid (by omega)
 obtain ⟨X,hX⟩:∃ v,x.natAbs=v:=⟨_,rfl⟩
 obtain ⟨Y,hY⟩:∃ v,y.natAbs=v:=⟨_,rfl⟩
 obtain ⟨mx,hmx⟩:∃ v,decide (x < 0)=v:=⟨_,rfl⟩
 obtain ⟨my,hmy⟩:∃ v,decide (y < 0)=v:=⟨_,rfl⟩
 obtain ⟨sx,hsx⟩:∃ v,magB (itoaB x)=v:=⟨_,rfl⟩
 obtain ⟨sy,hsy⟩:∃ v,magB (itoaB y)=v:=⟨_,rfl⟩
 obtain ⟨r,hr⟩:∃ v,itoaB (x*y)=v:=⟨_,rfl⟩
 obtain ⟨a,ha⟩:∃ v,itoaB x=v:=⟨_,rfl⟩
 obtain ⟨b,hb0⟩:∃ v,itoaB y=v:=⟨_,rfl⟩
 rw [hX,hY] at hres LZ HD
 rw [hX] at LX t1
 rw [hY] at LY t2
 rw [hsx] at s1 t1 hsz hz1
 rw [hsy] at s2 t2 hsz hz2
 rw [hmx] at s1 hres
 rw [hmy] at s2 hres
 rw [hr] at hres ⊢
 rw [ha] at s1 ⊢
 rw [hb0] at s2 ⊢
 have S1:=Lib.hid s1
 have S2:=Lib.hid s2
 have T1:=Lib.hid t1
 have T2:=Lib.hid t2
 have HR:=Lib.hid hres
 clear s1 s2 t1 t2 hres hmx hmy hsx hsy hr ha hb0 h hx hy lx ly lz hd hX hY
 have hb:=Below.refl w.heap.size w
 go_enter Tryz.func44,Tryz.ntmps44
 go_wp2_with (first | (go_at_call 67;first | (with_reducible refine (chain hb (S1.out _)).mono ?_;clear hb;rintro e w1 ⟨rfl,hb⟩) | (with_reducible refine (chain hb (S2.out _)).mono ?_;clear hb;rintro e w1 ⟨rfl,hb⟩)) | (go_at_call 68;first | (with_reducible refine (chainR hb (T1.out _)).mono ?_;clear hb;rintro e w1 ⟨p1,n1,c1,rfl,hs1,hl1,hb⟩;have HS1:=Lib.hid hs1;have HL1:=Lib.hid hl1;clear hs1 hl1) | (with_reducible refine (chainR hb (T2.out _)).mono ?_;clear hb;rintro e w2 ⟨p2,n2,c2,rfl,hs2,hl2,hb⟩;have HS2:=Lib.hid hs2;have HL2:=Lib.hid hl2;clear hs2 hl2)) | (go_at_call 86;refine (chainR hb (refTimes_sl (HS1.out.below HL2.out) HS2.out LX.out LY.out)).mono ?_;clear hb;rintro e w3 ⟨p3,n3,c3,rfl,hs3,hl3,hb⟩;have HS3:=Lib.hid hs3;clear hs3 hl3) | (go_at_call 69;refine (chain hb (made_sl (E.below hb) HS3.out LZ.out HD.out _ r HR.out)).mono ?_;clear hb;rintro e w4 ⟨rfl,hb⟩))
 go_ret
 exact ⟨rfl,hb⟩
theorem refMul_any (x y:Int) (w:World) (E:Env w) (hx:dlen x≤9000) (hy:dlen y≤9000) :
   Calls Tryz.prog 44 #[.string (itoaB x),.string (itoaB y)] w (Ret w (.string (itoaB (x*y)))):=by
 by_cases h:dlen x+dlen y≤18
 · exact refMul_short x y w E h
 · exact refMul_long x y w E (by omega) hx hy
theorem bitLenAux_lt : ∀ (f x:Nat),x < 2 ^ f→x < 2 ^ Lib.bitLenAux f x
 | 0,x,h=>h
 | f + 1,x,h=>by
   unfold Lib.bitLenAux
   by_cases h0:x=0
   · rw [if_pos h0,h0];decide
   · rw [if_neg h0]
     have:=bitLenAux_lt f (x / 2) (by rw [Nat.pow_succ] at h;omega)
     rw [Nat.add_comm,Nat.pow_succ];omega
theorem bitLenAux_le : ∀ (f x:Nat),Lib.bitLenAux f x≤f
 | 0,_=>Nat.le_refl _
 | f+1,x=>by
   unfold Lib.bitLenAux;split
   · omega
   · have:=bitLenAux_le f (x / 2);omega
theorem refPower_gen (x:Int) (e B:Nat) (w:World) (E:Env w) (he:e≤B) (hB:B≤1000) (hx:dlen x≤300) (hl:∀ k,k≤B→dlen (x ^ k)≤8000) :
   Calls Tryz.prog 142 #[.string (itoaB x),.int .i64 e] w fun e' w' => e' = .returned (.string (itoaB (x ^ e)))∧Below w.heap.size w w':=by
 have m1:∀ k w,k≤B→Env w→Calls Tryz.prog 44 #[.string (itoaB (x ^ k)),.string (itoaB x)] w (Ret w (.string (itoaB (x ^ (k+1))))):=fun k w hk E=>by
   rw [Int.pow_succ];exact refMul_any (x ^ k) x w E (by have:=hl k hk;omega) (by omega)
 have h1:(⟨#[49]⟩:ByteArray)=itoaB (x ^ 0):=by
   rw [Int.pow_zero];unfold itoaB;rw [itoa_nat 1 (by decide),show (1:Int).toNat=1 by rfl,show Lib.decDigits 1=[49] by rw [Lib.decDigits];rfl];rfl
 have M1:=Lib.hid m1
 have H1:=Lib.hid h1
 obtain ⟨a,ha⟩:∃ a,itoaB x=a:=⟨_,rfl⟩
 rw [ha] at M1 ⊢
 clear m1 h1 ha hl hx
 go_enter Tryz.func142,Tryz.ntmps142
 go_wp2
 go_loopw [5,6] (fun ov iv2 wr=>∃ (k:Nat) (o:ByteArray),ov = .string o∧iv2 = .int .i64 k∧k≤e∧Hid (o=itoaB (x ^ k))∧Below w.heap.size w wr) (fun _ iv2 _=>e - (intOf iv2).toNat)
 case atStart=>exact ⟨0,_,rfl,rfl,Nat.zero_le _,H1,Below.refl _ _⟩
 case round =>
   obtain ⟨k,o,rfl,rfl,hk,HO,hb⟩:=hrel
   by_cases hlt:k < e
   · have hlt':(k:Int) < (e:Int):=by omega
     have cm:Calls Tryz.prog 44 #[.string o,.string a] wr fun e w' => e = .returned (.string (itoaB (x ^ (k+1))))∧Below wr.heap.size wr w':=by
       rw [HO.out];exact M1.out k wr (by omega) (E.below hb)
     have CM:=Lib.hid cm
     obtain ⟨r,hr⟩:∃ r,itoaB (x ^ (k+1))=r:=⟨_,rfl⟩
     rw [hr] at CM
     have HR:=Lib.hid hr.symm
     have hk1:k+1≤e:=by omega
     have hms:e - (k+1) < e - k:=by omega
     clear cm hr
     go_wp2_with (go_at_call 44;refine (chain hb CM.out).mono ?_;clear hb;rintro e' w5 ⟨rfl,hb⟩)
     exact ⟨⟨k+1,r,rfl,by go_num,hk1,HR,hb⟩,hms⟩
   · obtain rfl:k=e:=by omega
     go_wp2
     go_ret
     exact ⟨retS HO.out,hb⟩
end Go.Proofs.YtpphjnekkjeacaaGreatDoor.Kl
