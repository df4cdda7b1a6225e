import Derived.Test.YtpiiclmkbplkhaaGreatDoorKlBRatC
namespace Go.Proofs.YtpiiclmkbplkhaaGreatDoor.Kl
open Go Go.RowKit
set_option maxRecDepth 100000
set_option maxHeartbeats 8000000
theorem inv_parts (q:Rat) (h:0 < q.num):q⁻¹.num=(q.den:Int)∧(q⁻¹.den:Int)=q.num:=by
 constructor
 · rw [Rat.num_inv,Int.sign_eq_one_of_pos h,Int.one_mul]
 · rw [Rat.den_inv,if_neg (by omega)];omega
theorem inv_parts' (q:Rat) (h:q.num < 0):q⁻¹.num = -(q.den:Int)∧(q⁻¹.den:Int) = -q.num:=by
 constructor
 · rw [Rat.num_inv,Int.sign_eq_neg_one_of_neg h];omega
 · rw [Rat.den_inv,if_neg (by omega)];omega
theorem rdiv_pos (p q:Rat) (hp:RL p 10000) (hq:RL q 10000) (h:0 < q.num) (w:World) (R:EnvR w) :
   Calls Tryz.prog 83 #[.string (ratB p),.string (ratB q)] w (Ret w (.tuple #[.string (ratB (p / q)),.int .i64 0])):=by
 have c1:=fun (w:World) (R:EnvR w)=>rparts_any q w R (hq.mono (by decide))
 have c2:CR 86 #[.string (itoaB q.num)] (.int .i64 1):=fun w R=>by have:=sign_any q.num w;rwa [Int.sign_eq_one_of_pos h] at this
 have c3:CR 69 #[.string (itoaB q.den),.string (itoaB q.num)] (.string (ratB q⁻¹)):=fun w R=>join_any q⁻¹ _ _ (inv_parts q h).1 (inv_parts q h).2 w R ((RL_inv hq (by omega)).mono (by decide))
 have c4:CR 38 #[.string (ratB p),.string (ratB q⁻¹)] (.string (ratB (p / q))):=fun w R=>by rw [Rat.div_def];exact rmul_any p q⁻¹ hp (RL_inv hq (by omega)) w R
 obtain ⟨r,er⟩:∃ v,ratB (p / q)=v:=⟨_,rfl⟩
 try simp only [er] at c1 c2 c3 c4 ⊢
 obtain ⟨c,ec⟩:∃ v,ratB q⁻¹=v:=⟨_,rfl⟩
 try simp only [ec] at c1 c2 c3 c4 ⊢
 obtain ⟨n,en⟩:∃ v,itoaB q.num=v:=⟨_,rfl⟩
 try simp only [en] at c1 c2 c3 c4 ⊢
 obtain ⟨d,ed⟩:∃ v,itoaB (q.den:Int)=v:=⟨_,rfl⟩
 try simp only [ed] at c1 c2 c3 c4 ⊢
 obtain ⟨a,ea⟩:∃ v,ratB p=v:=⟨_,rfl⟩
 try simp only [ea] at c1 c2 c3 c4 ⊢
 obtain ⟨b,eb⟩:∃ v,ratB q=v:=⟨_,rfl⟩
 try simp only [eb] at c1 c2 c3 c4 ⊢
 have C1:=Lib.hid c1
 have C2:=Lib.hid c2
 have C3:=Lib.hid c3
 have C4:=Lib.hid c4
 clear c1 c2 c3 c4 er ec en ed ea eb hp hq h
 have hb:=Below.refl w.heap.size w
 go_enter Tryz.func83,Tryz.ntmps83
 go_wp2_with ((first | (go_at_call 68;with_reducible refine (chRA hb R C1).mono ?_) | (go_at_call 86;with_reducible refine (chRA hb R C2).mono ?_) | (go_at_call 69;with_reducible refine (chRA hb R C3).mono ?_) | (go_at_call 38;with_reducible refine (chRA hb R C4).mono ?_));clear hb;rintro e w1 ⟨rfl,hb⟩)
 go_ret2
 exact ⟨rfl,hb⟩
theorem rdiv_neg (p q:Rat) (hp:RL p 10000) (hq:RL q 10000) (h:q.num < 0) (w:World) (R:EnvR w) :
   Calls Tryz.prog 83 #[.string (ratB p),.string (ratB q)] w (Ret w (.tuple #[.string (ratB (p / q)),.int .i64 0])):=by
 have c1:=fun (w:World) (R:EnvR w)=>rparts_any q w R (hq.mono (by decide))
 have c2:CR 86 #[.string (itoaB q.num)] (.int .i64 (-1)):=fun w R=>by have:=sign_any q.num w;rwa [Int.sign_eq_neg_one_of_neg h] at this
 have c3:CR 70 #[.string (itoaB q.num)] (.string (itoaB (-q.num))):=fun w R=>neg_any _ w (Nat.le_trans hq.1 (by decide))
 have c4:CR 70 #[.string (itoaB (q.den:Int))] (.string (itoaB (-(q.den:Int)))):=fun w R=>neg_any _ w (Nat.le_trans hq.2 (by decide))
 have c5:CR 69 #[.string (itoaB (-(q.den:Int))),.string (itoaB (-q.num))] (.string (ratB q⁻¹)):=fun w R=>join_any q⁻¹ _ _ (inv_parts' q h).1 (inv_parts' q h).2 w R ((RL_inv hq (by omega)).mono (by decide))
 have c6:CR 38 #[.string (ratB p),.string (ratB q⁻¹)] (.string (ratB (p / q))):=fun w R=>by rw [Rat.div_def];exact rmul_any p q⁻¹ hp (RL_inv hq (by omega)) w R
 obtain ⟨r,er⟩:∃ v,ratB (p / q)=v:=⟨_,rfl⟩
 try simp only [er] at c1 c2 c3 c4 c5 c6 ⊢
 obtain ⟨c,ec⟩:∃ v,ratB q⁻¹=v:=⟨_,rfl⟩
 try simp only [ec] at c1 c2 c3 c4 c5 c6 ⊢
 obtain ⟨n',en'⟩:∃ v,itoaB (-q.num)=v:=⟨_,rfl⟩
 try simp only [en'] at c1 c2 c3 c4 c5 c6 ⊢
 obtain ⟨d',ed'⟩:∃ v,itoaB (-(q.den:Int))=v:=⟨_,rfl⟩
 try simp only [ed'] at c1 c2 c3 c4 c5 c6 ⊢
 obtain ⟨n,en⟩:∃ v,itoaB q.num=v:=⟨_,rfl⟩
 try simp only [en] at c1 c2 c3 c4 c5 c6 ⊢
 obtain ⟨d,ed⟩:∃ v,itoaB (q.den:Int)=v:=⟨_,rfl⟩
 try simp only [ed] at c1 c2 c3 c4 c5 c6 ⊢
 obtain ⟨a,ea⟩:∃ v,ratB p=v:=⟨_,rfl⟩
 try simp only [ea] at c1 c2 c3 c4 c5 c6 ⊢
 obtain ⟨b,eb⟩:∃ v,ratB q=v:=⟨_,rfl⟩
 try simp only [eb] at c1 c2 c3 c4 c5 c6 ⊢
 have C1:=Lib.hid c1
 have C2:=Lib.hid c2
 have C3:=Lib.hid c3
 have C4:=Lib.hid c4
 have C5:=Lib.hid c5
 have C6:=Lib.hid c6
 clear c1 c2 c3 c4 c5 c6 er ec en' ed' en ed ea eb hp hq h
 have hb:=Below.refl w.heap.size w
 go_enter Tryz.func83,Tryz.ntmps83
 go_wp2_with ((first | (go_at_call 68;with_reducible refine (chRA hb R C1).mono ?_) | (go_at_call 86;with_reducible refine (chRA hb R C2).mono ?_) | (go_at_call 70;first | with_reducible refine (chRA hb R C3).mono ?_ | with_reducible refine (chRA hb R C4).mono ?_) | (go_at_call 69;with_reducible refine (chRA hb R C5).mono ?_) | (go_at_call 38;with_reducible refine (chRA hb R C6).mono ?_));clear hb;rintro e w1 ⟨rfl,hb⟩)
 go_ret2
 exact ⟨rfl,hb⟩
theorem rdiv_any (p q:Rat) (hp:RL p 10000) (hq:RL q 10000) (h:q≠0) (w:World) (R:EnvR w) :
   Calls Tryz.prog 83 #[.string (ratB p),.string (ratB q)] w (Ret w (.tuple #[.string (ratB (p / q)),.int .i64 0])):=by
 rcases Int.lt_trichotomy q.num 0 with h1 | h1 | h1
 · exact rdiv_neg p q hp hq h1 w R
 · exact absurd (Rat.num_eq_zero.1 h1) h
 · exact rdiv_pos p q hp hq h1 w R
theorem chain2A {P:Program} {K:FuncId} {args:Array Value} {w wa w0:World} {v:Value} (hb:Below w0.heap.size w0 w)
   (h:Calls P K args wa fun e w' => e = .returned v∧Below w.heap.size w w'):Calls P K args wa fun e w' => e = .returned v∧Below w.heap.size w w'∧Below w0.heap.size w0 w':=
 h.mono fun _ _ ⟨he,hb2⟩=>⟨he,hb2,hb.trans (hb2.mono hb.size)⟩
theorem isNaN_u64 (x:Int) (w:World) (_R:EnvR w) :
   Calls Tryz.prog 123 #[.int .u64 x] w (Ret w (.bool false)):=by
 have hb:=Below.refl w.heap.size w
 go_enter Tryz.func123,Tryz.ntmps123
 go_wp2
 go_ret
 exact ⟨rfl,hb⟩
theorem cmpU_l (x y:Int) (h:x < y) (w:World) (R:EnvR w) :
   Calls Tryz.prog 96 #[.int .u64 x,.int .u64 y] w (Ret w (.int .i64 (-1))):=by
 have c1:=isNaN_u64 x
 have c2:=isNaN_u64 y
 have C1:=Lib.hid c1
 have C2:=Lib.hid c2
 clear c1 c2
 have hb:=Below.refl w.heap.size w
 go_enter Tryz.func96,Tryz.ntmps96
 go_wp2_with ((go_at_call 123;first | with_reducible refine (chRA hb R C1).mono ?_ | with_reducible refine (chRA hb R C2).mono ?_);clear hb;rintro e w1 ⟨rfl,hb⟩)
 go_ret
 exact ⟨rfl,hb⟩
theorem cmpU_g (x y:Int) (h:y < x) (w:World) (R:EnvR w) :
   Calls Tryz.prog 96 #[.int .u64 x,.int .u64 y] w (Ret w (.int .i64 1)):=by
 have c1:=isNaN_u64 x
 have c2:=isNaN_u64 y
 have C1:=Lib.hid c1
 have C2:=Lib.hid c2
 clear c1 c2
 have hb:=Below.refl w.heap.size w
 go_enter Tryz.func96,Tryz.ntmps96
 go_wp2_with ((go_at_call 123;first | with_reducible refine (chRA hb R C1).mono ?_ | with_reducible refine (chRA hb R C2).mono ?_);clear hb;rintro e w1 ⟨rfl,hb⟩)
 go_ret
 exact ⟨rfl,hb⟩
theorem cmpU_e (x:Int) (w:World) (R:EnvR w) :
   Calls Tryz.prog 96 #[.int .u64 x,.int .u64 x] w (Ret w (.int .i64 0)):=by
 have c1:=isNaN_u64 x
 have C1:=Lib.hid c1
 clear c1
 have hb:=Below.refl w.heap.size w
 go_enter Tryz.func96,Tryz.ntmps96
 go_wp2_with (go_at_call 123;with_reducible refine (chRA hb R C1).mono ?_;clear hb;rintro e w1 ⟨rfl,hb⟩)
 go_ret
 exact ⟨rfl,hb⟩
theorem cmpU_any (x y:Int) (w:World) (R:EnvR w):Calls Tryz.prog 96 #[.int .u64 x,.int .u64 y] w (Ret w (.int .i64 (Lib.compareInt x y))):=by
 unfold Lib.compareInt
 by_cases h1:x < y
 · rw [if_pos h1];exact cmpU_l x y h1 w R
 · rw [if_neg h1]
   by_cases h2:y < x
   · rw [if_pos h2];exact cmpU_g x y h2 w R
   · rw [if_neg h2]
     have:x=y:=by omega
     subst this
     exact cmpU_e x w R
theorem cmp_lex (A B:Nat):orI (Lib.compareInt ((A / 18446744073709551616:Nat):Int) ((B / 18446744073709551616:Nat):Int)) (Lib.compareInt ((A % 18446744073709551616:Nat):Int) ((B % 18446744073709551616:Nat):Int))=Lib.compareInt (A:Int) (B:Int):=by
 have h1:=Nat.div_add_mod A 18446744073709551616
 have h2:=Nat.div_add_mod B 18446744073709551616
 have h3:=Nat.mod_lt A (show 0 < 18446744073709551616 by decide)
 have h4:=Nat.mod_lt B (show 0 < 18446744073709551616 by decide)
 unfold orI Lib.compareInt
 repeat' split
 all_goals omega
theorem cmpInts_m (a b c d A B C D h1 l1 h2 l2 r1 r2 r:Int) (hr:orI r1 r2=r) (hrb : -1≤r∧r≤1) (hs:a < 0) (k1':CR 94 #[.int .i64 a] (.int .u64 A)) (k2':CR 94 #[.int .i64 d] (.int .u64 D)) (k3':CR 93 #[.int .u64 A,.int .u64 D] (.tuple #[.int .u64 h1,.int .u64 l1])) (k4':CR 94 #[.int .i64 c] (.int .u64 C)) (k5':CR 94 #[.int .i64 b] (.int .u64 B)) (k6':CR 93 #[.int .u64 C,.int .u64 B] (.tuple #[.int .u64 h2,.int .u64 l2])) (k7':CR 96 #[.int .u64 h1,.int .u64 h2] (.int .i64 r1)) (k8':CR 96 #[.int .u64 l1,.int .u64 l2] (.int .i64 r2)) (w:World) (R:EnvR w) :
   Calls Tryz.prog 63 #[.agg #[.int .i64 a,.int .i64 b],.agg #[.int .i64 c,.int .i64 d]] w (Ret w (.tuple #[.int .i64 (-r),.bool true])):=by
 have c1:=k1'
 have c2:=k2'
 have c3:=k3'
 have c4:=k4'
 have c5:=k5'
 have c6:=k6'
 have c7:=k7'
 have c8:=k8'
 have C1:=Lib.hid c1
 have C2:=Lib.hid c2
 have C3:=Lib.hid c3
 have C4:=Lib.hid c4
 have C5:=Lib.hid c5
 have C6:=Lib.hid c6
 have C7:=Lib.hid c7
 have C8:=Lib.hid c8
 clear c1 c2 c3 c4 c5 c6 c7 c8 k1' k2' k3' k4' k5' k6' k7' k8'
 have OR:=Lib.hid (or_built r1 r2 r hr)
 clear hr
 have hb0':Below w.heap.size w (w.alloc (Obj.cells #[Value.int .i64 a,Value.int .i64 b] 118)):=(Below.refl _ _).alloc (Nat.le_refl _) _
 have hb1':Below w.heap.size w ((w.alloc (Obj.cells #[Value.int .i64 a,Value.int .i64 b] 118)).alloc (Obj.cells #[Value.int .i64 c,Value.int .i64 d] 118)):=hb0'.alloc hb0'.size _
 have hb:=hb1'
 clear hb0' hb1'
 have x0:((w.alloc (Obj.cells #[Value.int .i64 a,Value.int .i64 b] 118)).alloc (Obj.cells #[Value.int .i64 c,Value.int .i64 d] 118)).cell? ⟨w.heap.size,0,none⟩=some (Value.int .i64 a):=by simp [go_sem]
 have x1:((w.alloc (Obj.cells #[Value.int .i64 a,Value.int .i64 b] 118)).alloc (Obj.cells #[Value.int .i64 c,Value.int .i64 d] 118)).cell? ⟨w.heap.size,1,none⟩=some (Value.int .i64 b):=by simp [go_sem]
 have x2:((w.alloc (Obj.cells #[Value.int .i64 a,Value.int .i64 b] 118)).alloc (Obj.cells #[Value.int .i64 c,Value.int .i64 d] 118)).cell? ⟨w.heap.size+1,0,none⟩=some (Value.int .i64 c):=by simp [go_sem]
 have x3:((w.alloc (Obj.cells #[Value.int .i64 a,Value.int .i64 b] 118)).alloc (Obj.cells #[Value.int .i64 c,Value.int .i64 d] 118)).cell? ⟨w.heap.size+1,1,none⟩=some (Value.int .i64 d):=by simp [go_sem]
 go_enter Tryz.func63,Tryz.ntmps63
 go_upto_region 1 with fail
 obtain ⟨w1,hw1⟩:∃ w1,(w.alloc (Obj.cells #[Value.int .i64 a,Value.int .i64 b] 118)).alloc (Obj.cells #[Value.int .i64 c,Value.int .i64 d] 118)=w1:=⟨_,rfl⟩
 rw [hw1] at hb x0 x1 x2 x3 ⊢
 clear hw1
 have yx0:=zR x0
 have yx1:=zR x1
 have yx2:=zR x2
 have yx3:=zR x3
 have Aa:=rrR C1 R hb
 have Ab:=rrR C2 R hb
 have Ac:=rrR C3 R hb
 have Ad:=rrR C4 R hb
 have Ae:=rrR C5 R hb
 have Af:=rrR C6 R hb
 have Ag:=rrR C7 R hb
 have Ah:=rrR C8 R hb
 refine wp_region_quiet_below (by first | assumption | kernel_rfl) (by kernel_rfl) ?_
 repeat (quiet_step (first | (with_reducible exact Aa.out _ _) | (with_reducible exact Ab.out _ _) | (with_reducible exact Ac.out _ _) | (with_reducible exact Ad.out _ _) | (with_reducible exact Ae.out _ _) | (with_reducible exact Af.out _ _) | (with_reducible exact Ag.out _ _) | (with_reducible exact Ah.out _ _)))
 refine wpQuiet_nil ?_
 intro w1 hw'
 obtain ⟨hk,hb⟩:=zQ hb hw'
 replace x0:=zC hk x0
 replace x1:=zC hk x1
 replace x2:=zC hk x2
 replace x3:=zC hk x3
 clear Aa Ab Ac Ad Ae Af Ag Ah yx0 yx1 yx2 yx3
 clear hk hw'
 go_upto_region 2 with (first | ((first | (go_at_call 94;first | with_reducible refine (chRC hb R C1).mono ?_ | with_reducible refine (chRC hb R C2).mono ?_ | with_reducible refine (chRC hb R C4).mono ?_ | with_reducible refine (chRC hb R C5).mono ?_) | (go_at_call 93;first | with_reducible refine (chRC hb R C3).mono ?_ | with_reducible refine (chRC hb R C6).mono ?_) | (go_at_call 96;first | with_reducible refine (chRC hb R C7).mono ?_ | with_reducible refine (chRC hb R C8).mono ?_));clear hb;rintro e w1 ⟨rfl,hk,hb⟩;replace x0:=zC hk x0;replace x1:=zC hk x1;replace x2:=zC hk x2;replace x3:=zC hk x3;clear hk) | (go_at_call 95;refine (chain2A hb (OR.out _)).mono ?_;clear hb;rintro e w1 ⟨rfl,hk,hb⟩;replace x0:=zC hk x0;replace x1:=zC hk x1;replace x2:=zC hk x2;replace x3:=zC hk x3;clear hk))
 have yx0:=zR x0
 have yx1:=zR x1
 have yx2:=zR x2
 have yx3:=zR x3
 have Aa:=rrR C1 R hb
 have Ab:=rrR C2 R hb
 have Ac:=rrR C3 R hb
 have Ad:=rrR C4 R hb
 have Ae:=rrR C5 R hb
 have Af:=rrR C6 R hb
 have Ag:=rrR C7 R hb
 have Ah:=rrR C8 R hb
 refine wp_region_quiet_below (by first | assumption | kernel_rfl) (by kernel_rfl) ?_
 repeat (quiet_step (first | (with_reducible exact Aa.out _ _) | (with_reducible exact Ab.out _ _) | (with_reducible exact Ac.out _ _) | (with_reducible exact Ad.out _ _) | (with_reducible exact Ae.out _ _) | (with_reducible exact Af.out _ _) | (with_reducible exact Ag.out _ _) | (with_reducible exact Ah.out _ _)))
 refine wpQuiet_nil ?_
 intro w1 hw'
 obtain ⟨hk,hb⟩:=zQ hb hw'
 replace x0:=zC hk x0
 replace x1:=zC hk x1
 replace x2:=zC hk x2
 replace x3:=zC hk x3
 clear Aa Ab Ac Ad Ae Af Ag Ah yx0 yx1 yx2 yx3
 clear hk hw'
 go_wp2_with (first | ((first | (go_at_call 94;first | with_reducible refine (chRC hb R C1).mono ?_ | with_reducible refine (chRC hb R C2).mono ?_ | with_reducible refine (chRC hb R C4).mono ?_ | with_reducible refine (chRC hb R C5).mono ?_) | (go_at_call 93;first | with_reducible refine (chRC hb R C3).mono ?_ | with_reducible refine (chRC hb R C6).mono ?_) | (go_at_call 96;first | with_reducible refine (chRC hb R C7).mono ?_ | with_reducible refine (chRC hb R C8).mono ?_));clear hb;rintro e w1 ⟨rfl,hk,hb⟩;replace x0:=zC hk x0;replace x1:=zC hk x1;replace x2:=zC hk x2;replace x3:=zC hk x3;clear hk) | (go_at_call 95;refine (chain2A hb (OR.out _)).mono ?_;clear hb;rintro e w1 ⟨rfl,hk,hb⟩;replace x0:=zC hk x0;replace x1:=zC hk x1;replace x2:=zC hk x2;replace x3:=zC hk x3;clear hk))
 go_ret2
 exact ⟨rfl,hb⟩
theorem cmpInts_p (a b c d A B C D h1 l1 h2 l2 r1 r2 r:Int) (hr:orI r1 r2=r) (_hrb : -1≤r∧r≤1) (hs:0≤a) (k1':CR 94 #[.int .i64 a] (.int .u64 A)) (k2':CR 94 #[.int .i64 d] (.int .u64 D)) (k3':CR 93 #[.int .u64 A,.int .u64 D] (.tuple #[.int .u64 h1,.int .u64 l1])) (k4':CR 94 #[.int .i64 c] (.int .u64 C)) (k5':CR 94 #[.int .i64 b] (.int .u64 B)) (k6':CR 93 #[.int .u64 C,.int .u64 B] (.tuple #[.int .u64 h2,.int .u64 l2])) (k7':CR 96 #[.int .u64 h1,.int .u64 h2] (.int .i64 r1)) (k8':CR 96 #[.int .u64 l1,.int .u64 l2] (.int .i64 r2)) (w:World) (R:EnvR w) :
   Calls Tryz.prog 63 #[.agg #[.int .i64 a,.int .i64 b],.agg #[.int .i64 c,.int .i64 d]] w (Ret w (.tuple #[.int .i64 r,.bool true])):=by
 have c1:=k1'
 have c2:=k2'
 have c3:=k3'
 have c4:=k4'
 have c5:=k5'
 have c6:=k6'
 have c7:=k7'
 have c8:=k8'
 have C1:=Lib.hid c1
 have C2:=Lib.hid c2
 have C3:=Lib.hid c3
 have C4:=Lib.hid c4
 have C5:=Lib.hid c5
 have C6:=Lib.hid c6
 have C7:=Lib.hid c7
 have C8:=Lib.hid c8
 clear c1 c2 c3 c4 c5 c6 c7 c8 k1' k2' k3' k4' k5' k6' k7' k8'
 have OR:=Lib.hid (or_built r1 r2 r hr)
 clear hr
 have hb0':Below w.heap.size w (w.alloc (Obj.cells #[Value.int .i64 a,Value.int .i64 b] 118)):=(Below.refl _ _).alloc (Nat.le_refl _) _
 have hb1':Below w.heap.size w ((w.alloc (Obj.cells #[Value.int .i64 a,Value.int .i64 b] 118)).alloc (Obj.cells #[Value.int .i64 c,Value.int .i64 d] 118)):=hb0'.alloc hb0'.size _
 have hb:=hb1'
 clear hb0' hb1'
 have x0:((w.alloc (Obj.cells #[Value.int .i64 a,Value.int .i64 b] 118)).alloc (Obj.cells #[Value.int .i64 c,Value.int .i64 d] 118)).cell? ⟨w.heap.size,0,none⟩=some (Value.int .i64 a):=by simp [go_sem]
 have x1:((w.alloc (Obj.cells #[Value.int .i64 a,Value.int .i64 b] 118)).alloc (Obj.cells #[Value.int .i64 c,Value.int .i64 d] 118)).cell? ⟨w.heap.size,1,none⟩=some (Value.int .i64 b):=by simp [go_sem]
 have x2:((w.alloc (Obj.cells #[Value.int .i64 a,Value.int .i64 b] 118)).alloc (Obj.cells #[Value.int .i64 c,Value.int .i64 d] 118)).cell? ⟨w.heap.size+1,0,none⟩=some (Value.int .i64 c):=by simp [go_sem]
 have x3:((w.alloc (Obj.cells #[Value.int .i64 a,Value.int .i64 b] 118)).alloc (Obj.cells #[Value.int .i64 c,Value.int .i64 d] 118)).cell? ⟨w.heap.size+1,1,none⟩=some (Value.int .i64 d):=by simp [go_sem]
 go_enter Tryz.func63,Tryz.ntmps63
 go_upto_region 1 with fail
 obtain ⟨w1,hw1⟩:∃ w1,(w.alloc (Obj.cells #[Value.int .i64 a,Value.int .i64 b] 118)).alloc (Obj.cells #[Value.int .i64 c,Value.int .i64 d] 118)=w1:=⟨_,rfl⟩
 rw [hw1] at hb x0 x1 x2 x3 ⊢
 clear hw1
 have yx0:=zR x0
 have yx1:=zR x1
 have yx2:=zR x2
 have yx3:=zR x3
 have Aa:=rrR C1 R hb
 have Ab:=rrR C2 R hb
 have Ac:=rrR C3 R hb
 have Ad:=rrR C4 R hb
 have Ae:=rrR C5 R hb
 have Af:=rrR C6 R hb
 have Ag:=rrR C7 R hb
 have Ah:=rrR C8 R hb
 refine wp_region_quiet_below (by first | assumption | kernel_rfl) (by kernel_rfl) ?_
 repeat (quiet_step (first | (with_reducible exact Aa.out _ _) | (with_reducible exact Ab.out _ _) | (with_reducible exact Ac.out _ _) | (with_reducible exact Ad.out _ _) | (with_reducible exact Ae.out _ _) | (with_reducible exact Af.out _ _) | (with_reducible exact Ag.out _ _) | (with_reducible exact Ah.out _ _)))
 refine wpQuiet_nil ?_
 intro w1 hw'
 obtain ⟨hk,hb⟩:=zQ hb hw'
 replace x0:=zC hk x0
 replace x1:=zC hk x1
 replace x2:=zC hk x2
 replace x3:=zC hk x3
 clear Aa Ab Ac Ad Ae Af Ag Ah yx0 yx1 yx2 yx3
 clear hk hw'
 go_upto_region 2 with (first | ((first | (go_at_call 94;first | with_reducible refine (chRC hb R C1).mono ?_ | with_reducible refine (chRC hb R C2).mono ?_ | with_reducible refine (chRC hb R C4).mono ?_ | with_reducible refine (chRC hb R C5).mono ?_) | (go_at_call 93;first | with_reducible refine (chRC hb R C3).mono ?_ | with_reducible refine (chRC hb R C6).mono ?_) | (go_at_call 96;first | with_reducible refine (chRC hb R C7).mono ?_ | with_reducible refine (chRC hb R C8).mono ?_));clear hb;rintro e w1 ⟨rfl,hk,hb⟩;replace x0:=zC hk x0;replace x1:=zC hk x1;replace x2:=zC hk x2;replace x3:=zC hk x3;clear hk) | (go_at_call 95;refine (chain2A hb (OR.out _)).mono ?_;clear hb;rintro e w1 ⟨rfl,hk,hb⟩;replace x0:=zC hk x0;replace x1:=zC hk x1;replace x2:=zC hk x2;replace x3:=zC hk x3;clear hk))
 have yx0:=zR x0
 have yx1:=zR x1
 have yx2:=zR x2
 have yx3:=zR x3
 have Aa:=rrR C1 R hb
 have Ab:=rrR C2 R hb
 have Ac:=rrR C3 R hb
 have Ad:=rrR C4 R hb
 have Ae:=rrR C5 R hb
 have Af:=rrR C6 R hb
 have Ag:=rrR C7 R hb
 have Ah:=rrR C8 R hb
 refine wp_region_quiet_below (by first | assumption | kernel_rfl) (by kernel_rfl) ?_
 repeat (quiet_step (first | (with_reducible exact Aa.out _ _) | (with_reducible exact Ab.out _ _) | (with_reducible exact Ac.out _ _) | (with_reducible exact Ad.out _ _) | (with_reducible exact Ae.out _ _) | (with_reducible exact Af.out _ _) | (with_reducible exact Ag.out _ _) | (with_reducible exact Ah.out _ _)))
 refine wpQuiet_nil ?_
 intro w1 hw'
 obtain ⟨hk,hb⟩:=zQ hb hw'
 replace x0:=zC hk x0
 replace x1:=zC hk x1
 replace x2:=zC hk x2
 replace x3:=zC hk x3
 clear Aa Ab Ac Ad Ae Af Ag Ah yx0 yx1 yx2 yx3
 clear hk hw'
 go_wp2_with (first | ((first | (go_at_call 94;first | with_reducible refine (chRC hb R C1).mono ?_ | with_reducible refine (chRC hb R C2).mono ?_ | with_reducible refine (chRC hb R C4).mono ?_ | with_reducible refine (chRC hb R C5).mono ?_) | (go_at_call 93;first | with_reducible refine (chRC hb R C3).mono ?_ | with_reducible refine (chRC hb R C6).mono ?_) | (go_at_call 96;first | with_reducible refine (chRC hb R C7).mono ?_ | with_reducible refine (chRC hb R C8).mono ?_));clear hb;rintro e w1 ⟨rfl,hk,hb⟩;replace x0:=zC hk x0;replace x1:=zC hk x1;replace x2:=zC hk x2;replace x3:=zC hk x3;clear hk) | (go_at_call 95;refine (chain2A hb (OR.out _)).mono ?_;clear hb;rintro e w1 ⟨rfl,hk,hb⟩;replace x0:=zC hk x0;replace x1:=zC hk x1;replace x2:=zC hk x2;replace x3:=zC hk x3;clear hk))
 go_ret2
 exact ⟨rfl,hb⟩
theorem cmpI_bound (x y:Int) : -1≤Lib.compareInt x y∧Lib.compareInt x y≤1:=by
 unfold Lib.compareInt;repeat' split
 all_goals omega
theorem compareInts_any (a b c d:Int) (ha0 : -1000000000000000000 < a) (ha1:a < 1000000000000000000) (hc0 : -1000000000000000000 < c) (hc1:c < 1000000000000000000) (hb0:0 < b) (hb1:b < 1000000000000000000) (hd0:0 < d) (hd1:d < 1000000000000000000) (hs:(a < 0)↔(c < 0)) (w:World) (R:EnvR w) :
   Calls Tryz.prog 63 #[.agg #[.int .i64 a,.int .i64 b],.agg #[.int .i64 c,.int .i64 d]] w (Ret w (.tuple #[.int .i64 (a*d - c*b).sign,.bool true])):=by
 have k1:=fun w R=>size_any a (by omega) (by omega) w R
 have k2:=fun w R=>size_any d (by omega) (by omega) w R
 have k4:=fun w R=>size_any c (by omega) (by omega) w R
 have k5:=fun w R=>size_any b (by omega) (by omega) w R
 have k3:=fun (w:World) (_:EnvR w)=>mul64_call a.natAbs d.natAbs _ _ (by omega) (by omega) rfl rfl w
 have k6:=fun (w:World) (_:EnvR w)=>mul64_call c.natAbs b.natAbs _ _ (by omega) (by omega) rfl rfl w
 have lx:=cmp_lex (a.natAbs*d.natAbs) (c.natAbs*b.natAbs)
 have bd:=cmpI_bound ((a.natAbs*d.natAbs:Nat):Int) ((c.natAbs*b.natAbs:Nat):Int)
 have e1:((a.natAbs*d.natAbs:Nat):Int)=(a.natAbs:Int)*d:=by rw [Int.natCast_mul,show (d.natAbs:Int)=d by omega]
 have e2:((c.natAbs*b.natAbs:Nat):Int)=(c.natAbs:Int)*b:=by rw [Int.natCast_mul,show (b.natAbs:Int)=b by omega]
 have k7:=fun w R=>cmpU_any ((a.natAbs*d.natAbs / 18446744073709551616:Nat):Int) ((c.natAbs*b.natAbs / 18446744073709551616:Nat):Int) w R
 have k8:=fun w R=>cmpU_any ((a.natAbs*d.natAbs % 18446744073709551616:Nat):Int) ((c.natAbs*b.natAbs % 18446744073709551616:Nat):Int) w R
 by_cases h:a < 0
 · have h2:=hs.1 h
   have e:(a*d - c*b).sign = -Lib.compareInt ((a.natAbs*d.natAbs:Nat):Int) ((c.natAbs*b.natAbs:Nat):Int):=by
     rw [← sign_cmp,e1,e2,show (a.natAbs:Int) = -a by omega,show (c.natAbs:Int) = -c by omega,← Int.sign_neg]
     congr 1
     rw [Int.neg_mul,Int.neg_mul];omega
   rw [e]
   exact cmpInts_m a b c d _ _ _ _ _ _ _ _ _ _ _ lx bd h k1 k2 k3 k4 k5 k6 k7 k8 w R
 · have h2:=mt hs.2 h
   have e:(a*d - c*b).sign=Lib.compareInt ((a.natAbs*d.natAbs:Nat):Int) ((c.natAbs*b.natAbs:Nat):Int):=by
     rw [← sign_cmp,e1,e2,show (a.natAbs:Int)=a by omega,show (c.natAbs:Int)=c by omega]
   rw [e]
   exact cmpInts_p a b c d _ _ _ _ _ _ _ _ _ _ _ lx bd (by omega) k1 k2 k3 k4 k5 k6 k7 k8 w R
theorem compareLong_any (p q:Rat) (hp:RL p 10000) (hq:RL q 10000) (w:World) (R:EnvR w) :
   Calls Tryz.prog 64 #[.agg #[.string (itoaB p.num),.string (itoaB (p.den:Int))],.agg #[.string (itoaB q.num),.string (itoaB (q.den:Int))]] w (Ret w (.int .i64 (p - q).num.sign)):=by
 rw [sub_sign]
 have c1:CR 97 #[.string (itoaB p.num),.string (itoaB (q.den:Int))] (.string (itoaB (p.num*(q.den:Int)))):=fun w R=>mul_any _ _ w R.env (Nat.le_trans hp.1 (by decide)) (Nat.le_trans hq.2 (by decide))
 have c2:CR 97 #[.string (itoaB q.num),.string (itoaB (p.den:Int))] (.string (itoaB (q.num*(p.den:Int)))):=fun w R=>mul_any _ _ w R.env (Nat.le_trans hq.1 (by decide)) (Nat.le_trans hp.2 (by decide))
 have c3:CR 74 #[.string (itoaB (p.num*(q.den:Int))),.string (itoaB (q.num*(p.den:Int)))] (.int .i64 ((p.num*(q.den:Int)) - (q.num*(p.den:Int))).sign):=fun w R=>compare_any _ _ w
 obtain ⟨z,ez⟩:∃ v,((p.num*(q.den:Int)) - (q.num*(p.den:Int))).sign=v:=⟨_,rfl⟩
 try simp only [ez] at c1 c2 c3 ⊢
 obtain ⟨x,ex⟩:∃ v,itoaB (p.num*(q.den:Int))=v:=⟨_,rfl⟩
 try simp only [ex] at c1 c2 c3 ⊢
 obtain ⟨y,ey⟩:∃ v,itoaB (q.num*(p.den:Int))=v:=⟨_,rfl⟩
 try simp only [ey] at c1 c2 c3 ⊢
 obtain ⟨n,en⟩:∃ v,itoaB p.num=v:=⟨_,rfl⟩
 try simp only [en] at c1 c2 c3 ⊢
 obtain ⟨d,ed⟩:∃ v,itoaB (p.den:Int)=v:=⟨_,rfl⟩
 try simp only [ed] at c1 c2 c3 ⊢
 obtain ⟨m,em⟩:∃ v,itoaB q.num=v:=⟨_,rfl⟩
 try simp only [em] at c1 c2 c3 ⊢
 obtain ⟨e',ee'⟩:∃ v,itoaB (q.den:Int)=v:=⟨_,rfl⟩
 try simp only [ee'] at c1 c2 c3 ⊢
 have C1:=Lib.hid c1
 have C2:=Lib.hid c2
 have C3:=Lib.hid c3
 clear c1 c2 c3 ez ex ey en ed em ee' hp hq
 have hb0':Below w.heap.size w (w.alloc (Obj.cells #[Value.string n,Value.string d] 120)):=(Below.refl _ _).alloc (Nat.le_refl _) _
 have hb1':Below w.heap.size w ((w.alloc (Obj.cells #[Value.string n,Value.string d] 120)).alloc (Obj.cells #[Value.string m,Value.string e'] 120)):=hb0'.alloc hb0'.size _
 have hb:=hb1'
 clear hb0' hb1'
 have x0:((w.alloc (Obj.cells #[Value.string n,Value.string d] 120)).alloc (Obj.cells #[Value.string m,Value.string e'] 120)).cell? ⟨w.heap.size,0,none⟩=some (Value.string n):=by simp [go_sem]
 have x1:((w.alloc (Obj.cells #[Value.string n,Value.string d] 120)).alloc (Obj.cells #[Value.string m,Value.string e'] 120)).cell? ⟨w.heap.size,1,none⟩=some (Value.string d):=by simp [go_sem]
 have x2:((w.alloc (Obj.cells #[Value.string n,Value.string d] 120)).alloc (Obj.cells #[Value.string m,Value.string e'] 120)).cell? ⟨w.heap.size+1,0,none⟩=some (Value.string m):=by simp [go_sem]
 have x3:((w.alloc (Obj.cells #[Value.string n,Value.string d] 120)).alloc (Obj.cells #[Value.string m,Value.string e'] 120)).cell? ⟨w.heap.size+1,1,none⟩=some (Value.string e'):=by simp [go_sem]
 go_enter Tryz.func64,Tryz.ntmps64
 go_upto_region 1 with fail
 obtain ⟨w1,hw1⟩:∃ w1,(w.alloc (Obj.cells #[Value.string n,Value.string d] 120)).alloc (Obj.cells #[Value.string m,Value.string e'] 120)=w1:=⟨_,rfl⟩
 rw [hw1] at hb x0 x1 x2 x3 ⊢
 clear hw1
 have yx0:=zR x0
 have yx1:=zR x1
 have yx2:=zR x2
 have yx3:=zR x3
 have Aa:=rrR C1 R hb
 have Ab:=rrR C2 R hb
 have Ac:=rrR C3 R hb
 refine wp_region_quiet_below (by first | assumption | kernel_rfl) (by kernel_rfl) ?_
 repeat (quiet_step (first | (with_reducible exact Aa.out _ _) | (with_reducible exact Ab.out _ _) | (with_reducible exact Ac.out _ _)))
 refine wpQuiet_nil ?_
 intro w1 hw'
 obtain ⟨hk,hb⟩:=zQ hb hw'
 replace x0:=zC hk x0
 replace x1:=zC hk x1
 replace x2:=zC hk x2
 replace x3:=zC hk x3
 clear Aa Ab Ac yx0 yx1 yx2 yx3
 clear hk hw'
 go_wp2_with ((first | (go_at_call 97;first | with_reducible refine (chRC hb R C1).mono ?_ | with_reducible refine (chRC hb R C2).mono ?_) | (go_at_call 74;with_reducible refine (chRC hb R C3).mono ?_));clear hb;rintro e w1 ⟨rfl,hk,hb⟩;replace x0:=zC hk x0;replace x1:=zC hk x1;replace x2:=zC hk x2;replace x3:=zC hk x3;clear hk)
 go_ret
 exact ⟨rfl,hb⟩
theorem calcCmp_yes (s t:ByteArray) (x y u v:Int) (r0:Int) (h1:CR 91 #[.string s] (.tuple #[.int .i64 x,.int .i64 y,.bool true])) (h2:CR 91 #[.string t] (.tuple #[.int .i64 u,.int .i64 v,.bool true])) (h3:CR 63 #[.agg #[.int .i64 x,.int .i64 y],.agg #[.int .i64 u,.int .i64 v]] (.tuple #[.int .i64 r0,.bool true])) (w:World) (R:EnvR w) :
   Calls Tryz.prog 62 #[.string s,.string t,.func (Fn.func 63) #[] #[],.func (Fn.func 64) #[] #[]] w (Ret w (.int .i64 r0)):=by
 have c1:=h1
 have c2:=h2
 have c3:=h3
 have C1:=Lib.hid c1
 have C2:=Lib.hid c2
 have C3:=Lib.hid c3
 clear c1 c2 c3 h1 h2 h3
 have hb:=Below.refl w.heap.size w
 go_enter Tryz.func62,Tryz.ntmps62
 go_wp2_with ((first | (go_at_call 91;first | with_reducible refine (chRA hb R C1).mono ?_ | with_reducible refine (chRA hb R C2).mono ?_) | (go_at_call 63;with_reducible refine (chRA hb R C3).mono ?_));clear hb;rintro e w1 ⟨rfl,hb⟩)
 go_ret
 exact ⟨rfl,hb⟩
theorem calcCmp_la (s t a1 a2 b1 b2:ByteArray) (x y u v:Int) (k:Bool) (r1:Int) (h1:CR 91 #[.string s] (.tuple #[.int .i64 x,.int .i64 y,.bool false])) (h2:CR 91 #[.string t] (.tuple #[.int .i64 u,.int .i64 v,.bool k])) (h3:CR 92 #[.string s] (.agg #[.string a1,.string a2])) (h4:CR 92 #[.string t] (.agg #[.string b1,.string b2])) (h5:CR 64 #[.agg #[.string a1,.string a2],.agg #[.string b1,.string b2]] (.int .i64 r1)) (w:World) (R:EnvR w) :
   Calls Tryz.prog 62 #[.string s,.string t,.func (Fn.func 63) #[] #[],.func (Fn.func 64) #[] #[]] w (Ret w (.int .i64 r1)):=by
 have c1:=h1
 have c2:=h2
 have c3:=h3
 have c4:=h4
 have c5:=h5
 have C1:=Lib.hid c1
 have C2:=Lib.hid c2
 have C3:=Lib.hid c3
 have C4:=Lib.hid c4
 have C5:=Lib.hid c5
 clear c1 c2 c3 c4 c5 h1 h2 h3 h4 h5
 have hb:=Below.refl w.heap.size w
 go_enter Tryz.func62,Tryz.ntmps62
 go_wp2_with ((first | (go_at_call 91;first | with_reducible refine (chRA hb R C1).mono ?_ | with_reducible refine (chRA hb R C2).mono ?_) | (go_at_call 92;first | with_reducible refine (chRA hb R C3).mono ?_ | with_reducible refine (chRA hb R C4).mono ?_) | (go_at_call 64;with_reducible refine (chRA hb R C5).mono ?_));clear hb;rintro e w1 ⟨rfl,hb⟩)
 go_ret
 exact ⟨rfl,hb⟩
theorem calcCmp_lb (s t a1 a2 b1 b2:ByteArray) (x y u v:Int) (r1:Int) (h1:CR 91 #[.string s] (.tuple #[.int .i64 x,.int .i64 y,.bool true])) (h2:CR 91 #[.string t] (.tuple #[.int .i64 u,.int .i64 v,.bool false])) (h3:CR 92 #[.string s] (.agg #[.string a1,.string a2])) (h4:CR 92 #[.string t] (.agg #[.string b1,.string b2])) (h5:CR 64 #[.agg #[.string a1,.string a2],.agg #[.string b1,.string b2]] (.int .i64 r1)) (w:World) (R:EnvR w) :
   Calls Tryz.prog 62 #[.string s,.string t,.func (Fn.func 63) #[] #[],.func (Fn.func 64) #[] #[]] w (Ret w (.int .i64 r1)):=by
 have c1:=h1
 have c2:=h2
 have c3:=h3
 have c4:=h4
 have c5:=h5
 have C1:=Lib.hid c1
 have C2:=Lib.hid c2
 have C3:=Lib.hid c3
 have C4:=Lib.hid c4
 have C5:=Lib.hid c5
 clear c1 c2 c3 c4 c5 h1 h2 h3 h4 h5
 have hb:=Below.refl w.heap.size w
 go_enter Tryz.func62,Tryz.ntmps62
 go_wp2_with ((first | (go_at_call 91;first | with_reducible refine (chRA hb R C1).mono ?_ | with_reducible refine (chRA hb R C2).mono ?_) | (go_at_call 92;first | with_reducible refine (chRA hb R C3).mono ?_ | with_reducible refine (chRA hb R C4).mono ?_) | (go_at_call 64;with_reducible refine (chRA hb R C5).mono ?_));clear hb;rintro e w1 ⟨rfl,hb⟩)
 go_ret
 exact ⟨rfl,hb⟩
theorem calcCmp_any (p q:Rat) (w:World) (R:EnvR w) (hp:RL p 10000) (hq:RL q 10000) (hs:(p.num < 0)↔(q.num < 0)) :
   Calls Tryz.prog 62 #[.string (ratB p),.string (ratB q),.func (Fn.func 63) #[] #[],.func (Fn.func 64) #[] #[]] w (Ret w (.int .i64 (p - q).num.sign)):=by
 have lp:=fun w R=>partsOf_any p (hp.mono (by decide)) w R
 have lq:=fun w R=>partsOf_any q (hq.mono (by decide)) w R
 have lo:=fun w R=>compareLong_any p q hp hq w R
 have p0:=p.den_pos
 have q0:=q.den_pos
 by_cases h1:shortQ p
 · have c1:=fun w R=>rsmall_yes p h1 w R
   by_cases h2:shortQ q
   · have c2:=fun w R=>rsmall_yes q h2 w R
     have ci:=fun w R=>compareInts_any p.num p.den q.num q.den h1.1 h1.2.1 h2.1 h2.2.1 (by omega) (by have:=h1.2.2;omega) (by omega) (by have:=h2.2.2;omega) hs w R
     rw [← sub_sign] at ci
     exact calcCmp_yes _ _ _ _ _ _ _ c1 c2 ci w R
   · exact calcCmp_lb _ _ _ _ _ _ _ _ _ _ _ c1 (fun w R=>rsmall_no q h2 w R (hq.mono (by decide))) lp lq lo w R
 · by_cases h2:shortQ q
   · exact calcCmp_la _ _ _ _ _ _ _ _ _ _ _ _ (fun w R=>rsmall_no p h1 w R (hp.mono (by decide))) (fun w R=>rsmall_yes q h2 w R) lp lq lo w R
   · exact calcCmp_la _ _ _ _ _ _ _ _ _ _ _ _ (fun w R=>rsmall_no p h1 w R (hp.mono (by decide))) (fun w R=>rsmall_no q h2 w R (hq.mono (by decide))) lp lq lo w R
theorem rcompare_eq (a:ByteArray) (w:World) (_R:EnvR w) :
   Calls Tryz.prog 36 #[.string a,.string a] w (Ret w (.int .i64 0)):=by
 have hb:=Below.refl w.heap.size w
 go_enter Tryz.func36,Tryz.ntmps36
 go_wp2
 go_ret
 exact ⟨rfl,hb⟩
theorem rcompare_ne (p q:Rat) (hp:RL p 10000) (hq:RL q 10000) (hne:((ratB p).toList == (ratB q).toList)=false) (h:(Lib.compareInt p.num.sign q.num.sign)≠0) (w:World) (R:EnvR w) :
   Calls Tryz.prog 36 #[.string (ratB p),.string (ratB q)] w (Ret w (.int .i64 (Lib.compareInt p.num.sign q.num.sign))):=by
 have c1:=rsign_any p (hp.mono (by decide))
 have c2:=rsign_any q (hq.mono (by decide))
 have c3:CR 61 #[.int .i64 p.num.sign,.int .i64 q.num.sign] (.int .i64 (Lib.compareInt p.num.sign q.num.sign)):=fun w R=>(Tryz.cmp_Compare_int _ _ w).mono fun _ _ h=>⟨h.1,h.2 ▸ Below.refl _ _⟩
 have hne':((ratB p).toList == (ratB q).toList)=false:=hne
 have h':(Lib.compareInt p.num.sign q.num.sign)≠0:=h
 obtain ⟨z,ez⟩:∃ v,(Lib.compareInt p.num.sign q.num.sign)=v:=⟨_,rfl⟩
 try simp only [ez] at c1 c2 c3 hne' h' ⊢
 obtain ⟨s,es⟩:∃ v,p.num.sign=v:=⟨_,rfl⟩
 try simp only [es] at c1 c2 c3 hne' h' ⊢
 obtain ⟨t,et⟩:∃ v,q.num.sign=v:=⟨_,rfl⟩
 try simp only [et] at c1 c2 c3 hne' h' ⊢
 obtain ⟨a,ea⟩:∃ v,ratB p=v:=⟨_,rfl⟩
 try simp only [ea] at c1 c2 c3 hne' h' ⊢
 obtain ⟨b,eb⟩:∃ v,ratB q=v:=⟨_,rfl⟩
 try simp only [eb] at c1 c2 c3 hne' h' ⊢
 have C1:=Lib.hid c1
 have C2:=Lib.hid c2
 have C3:=Lib.hid c3
 clear c1 c2 c3 ez es et ea eb hp hq hne h
 have hb:=Below.refl w.heap.size w
 go_enter Tryz.func36,Tryz.ntmps36
 go_wp2_with ((first | (go_at_call 54;first | with_reducible refine (chRA hb R C1).mono ?_ | with_reducible refine (chRA hb R C2).mono ?_) | (go_at_call 61;with_reducible refine (chRA hb R C3).mono ?_));clear hb;rintro e w1 ⟨rfl,hb⟩)
 go_ret
 exact ⟨rfl,hb⟩
theorem rcompare_go (p q:Rat) (hp:RL p 10000) (hq:RL q 10000) (hne:((ratB p).toList == (ratB q).toList)=false) (h:(Lib.compareInt p.num.sign q.num.sign)=0) (hs:(p.num < 0)↔(q.num < 0)) (w:World) (R:EnvR w) :
   Calls Tryz.prog 36 #[.string (ratB p),.string (ratB q)] w (Ret w (.int .i64 (p - q).num.sign)):=by
 have c1:=rsign_any p (hp.mono (by decide))
 have c2:=rsign_any q (hq.mono (by decide))
 have c3:CR 61 #[.int .i64 p.num.sign,.int .i64 q.num.sign] (.int .i64 0):=fun w R=>by rw [← h];exact (Tryz.cmp_Compare_int _ _ w).mono fun _ _ h=>⟨h.1,h.2 ▸ Below.refl _ _⟩
 have c4:=fun (w:World) (R:EnvR w)=>calcCmp_any p q w R hp hq hs
 have hne':((ratB p).toList == (ratB q).toList)=false:=hne
 obtain ⟨z,ez⟩:∃ v,(p - q).num.sign=v:=⟨_,rfl⟩
 try simp only [ez] at c1 c2 c3 c4 hne' ⊢
 obtain ⟨s,es⟩:∃ v,p.num.sign=v:=⟨_,rfl⟩
 try simp only [es] at c1 c2 c3 c4 hne' ⊢
 obtain ⟨t,et⟩:∃ v,q.num.sign=v:=⟨_,rfl⟩
 try simp only [et] at c1 c2 c3 c4 hne' ⊢
 obtain ⟨a,ea⟩:∃ v,ratB p=v:=⟨_,rfl⟩
 try simp only [ea] at c1 c2 c3 c4 hne' ⊢
 obtain ⟨b,eb⟩:∃ v,ratB q=v:=⟨_,rfl⟩
 try simp only [eb] at c1 c2 c3 c4 hne' ⊢
 have C1:=Lib.hid c1
 have C2:=Lib.hid c2
 have C3:=Lib.hid c3
 have C4:=Lib.hid c4
 clear c1 c2 c3 c4 ez es et ea eb hp hq hne h hs
 have hb:=Below.refl w.heap.size w
 go_enter Tryz.func36,Tryz.ntmps36
 go_wp2_with ((first | (go_at_call 54;first | with_reducible refine (chRA hb R C1).mono ?_ | with_reducible refine (chRA hb R C2).mono ?_) | (go_at_call 61;with_reducible refine (chRA hb R C3).mono ?_) | (go_at_call 62;with_reducible refine (chRA hb R C4).mono ?_));clear hb;rintro e w1 ⟨rfl,hb⟩)
 go_ret
 exact ⟨rfl,hb⟩
theorem sign_differ (p q:Rat) (h:p.num.sign≠q.num.sign):Lib.compareInt p.num.sign q.num.sign=(p - q).num.sign:=by
 rw [sub_sign]
 have p0:=p.den_pos
 have q0:=q.den_pos
 have a1:p.num < 0→p.num*(q.den:Int) < 0:=fun h=>Int.mul_neg_of_neg_of_pos h (by omega)
 have a2:0 < p.num→0 < p.num*(q.den:Int):=fun h=>Int.mul_pos h (by omega)
 have b1:q.num < 0→q.num*(p.den:Int) < 0:=fun h=>Int.mul_neg_of_neg_of_pos h (by omega)
 have b2:0 < q.num→0 < q.num*(p.den:Int):=fun h=>Int.mul_pos h (by omega)
 have a3:p.num=0→p.num*(q.den:Int)=0:=fun h=>by rw [h,Int.zero_mul]
 have b3:q.num=0→q.num*(p.den:Int)=0:=fun h=>by rw [h,Int.zero_mul]
 rw [sign_cmp]
 unfold Lib.compareInt
 rcases Int.lt_trichotomy p.num 0 with h1 | h1 | h1 <;> rcases Int.lt_trichotomy q.num 0 with h2 | h2 | h2
 all_goals (first | (rw [Int.sign_eq_neg_one_of_neg h1] at h ⊢) | (rw [Int.sign_eq_one_of_pos h1] at h ⊢) | (rw [h1] at h ⊢;rw [Int.sign_zero] at h ⊢))
 all_goals (first | (rw [Int.sign_eq_neg_one_of_neg h2] at h ⊢) | (rw [Int.sign_eq_one_of_pos h2] at h ⊢) | (rw [h2] at h ⊢;rw [Int.sign_zero] at h ⊢))
 all_goals (repeat' split)
 all_goals (try omega)
 all_goals (first | (have:=a1 h1;omega) | (have:=a2 h1;omega) | skip)
theorem rcompare_any (p q:Rat) (hp:RL p 10000) (hq:RL q 10000) (w:World) (R:EnvR w) :
   Calls Tryz.prog 36 #[.string (ratB p),.string (ratB q)] w (Ret w (.int .i64 (p - q).num.sign)):=by
 by_cases he:p=q
 · subst he
   rw [Rat.sub_self]
   exact rcompare_eq _ w R
 · have hne:((ratB p).toList == (ratB q).toList)=false:=by rw [rb_eq];exact decide_eq_false (fun h=>he (ratB_inj h))
   by_cases h:p.num.sign=q.num.sign
   · refine rcompare_go p q hp hq hne ?_ ?_ w R
     · rw [h];unfold Lib.compareInt;rw [if_neg (by omega),if_neg (by omega)]
     · rw [← Int.sign_eq_neg_one_iff_neg,← Int.sign_eq_neg_one_iff_neg,h]
   · rw [← sign_differ p q h]
     refine rcompare_ne p q hp hq hne ?_ w R
     unfold Lib.compareInt;split
     · decide
     · split
       · decide
       · omega
theorem RL_int (g:Int) (K:Nat) (hK:0 < K) (h:dlen g≤K):RL (g:Rat) K:=⟨h,by show dlen ((1:Nat):Int)≤K;rw [dlen_one];exact hK⟩
theorem divInt_one (g:Int):Rat.divInt g 1=(g:Rat):=Rat.mkRat_one g
theorem subInts_w (a b c d:Int) (f:Bool) (r:ByteArray) (hc0 : -1000000000000000000 < c) (hc1:c < 1000000000000000000) (h:CR 114 #[.agg #[.int .i64 a,.int .i64 b],.agg #[.int .i64 (-c),.int .i64 d]] (.tuple #[.string r,.bool f])) (w:World) (R:EnvR w) :
   Calls Tryz.prog 139 #[.agg #[.int .i64 a,.int .i64 b],.agg #[.int .i64 c,.int .i64 d]] w (Ret w (.tuple #[.string r,.bool f])):=by
 have c1:=h
 have C1:=Lib.hid c1
 clear c1 h
 have hb0':Below w.heap.size w (w.alloc (Obj.cells #[Value.int .i64 a,Value.int .i64 b] 118)):=(Below.refl _ _).alloc (Nat.le_refl _) _
 have hb1':Below w.heap.size w ((w.alloc (Obj.cells #[Value.int .i64 a,Value.int .i64 b] 118)).alloc (Obj.cells #[Value.int .i64 c,Value.int .i64 d] 118)):=hb0'.alloc hb0'.size _
 have hb:=hb1'
 clear hb0' hb1'
 have x0:((w.alloc (Obj.cells #[Value.int .i64 a,Value.int .i64 b] 118)).alloc (Obj.cells #[Value.int .i64 c,Value.int .i64 d] 118)).cell? ⟨w.heap.size,0,none⟩=some (Value.int .i64 a):=by simp [go_sem]
 have x1:((w.alloc (Obj.cells #[Value.int .i64 a,Value.int .i64 b] 118)).alloc (Obj.cells #[Value.int .i64 c,Value.int .i64 d] 118)).cell? ⟨w.heap.size,1,none⟩=some (Value.int .i64 b):=by simp [go_sem]
 have x2:((w.alloc (Obj.cells #[Value.int .i64 a,Value.int .i64 b] 118)).alloc (Obj.cells #[Value.int .i64 c,Value.int .i64 d] 118)).cell? ⟨w.heap.size+1,0,none⟩=some (Value.int .i64 c):=by simp [go_sem]
 have x3:((w.alloc (Obj.cells #[Value.int .i64 a,Value.int .i64 b] 118)).alloc (Obj.cells #[Value.int .i64 c,Value.int .i64 d] 118)).cell? ⟨w.heap.size+1,1,none⟩=some (Value.int .i64 d):=by simp [go_sem]
 go_enter Tryz.func139,Tryz.ntmps139
 go_wp2_with (go_at_call 114;with_reducible refine (chRC hb R C1).mono ?_;clear hb;rintro e w1 ⟨rfl,hk,hb⟩;replace x0:=zC hk x0;replace x1:=zC hk x1;replace x2:=zC hk x2;replace x3:=zC hk x3;clear hk)
 go_ret2
 exact ⟨rfl,hb⟩
theorem subLong_any (p q:Rat) (hp:RL p 10000) (hq:RL q 10000) (w:World) (R:EnvR w) :
   Calls Tryz.prog 140 #[.agg #[.string (itoaB p.num),.string (itoaB (p.den:Int))],.agg #[.string (itoaB q.num),.string (itoaB (q.den:Int))]] w (Ret w (.string (ratB (p - q)))):=by
 have c1:CR 70 #[.string (itoaB q.num)] (.string (itoaB (-q.num))):=fun w R=>neg_any _ w (Nat.le_trans hq.1 (by decide))
 have c2:CR 115 #[.agg #[.string (itoaB p.num),.string (itoaB (p.den:Int))],.agg #[.string (itoaB (-q.num)),.string (itoaB (q.den:Int))]] (.string (ratB (p - q))):=fun w R=>by have:=addLong_any p (-q) hp (RL_neg hq) w R;rwa [← Rat.sub_eq_add_neg] at this
 obtain ⟨r,er⟩:∃ v,ratB (p - q)=v:=⟨_,rfl⟩
 try simp only [er] at c1 c2 ⊢
 obtain ⟨v,ev⟩:∃ v,itoaB (-q.num)=v:=⟨_,rfl⟩
 try simp only [ev] at c1 c2 ⊢
 obtain ⟨n,en⟩:∃ v,itoaB p.num=v:=⟨_,rfl⟩
 try simp only [en] at c1 c2 ⊢
 obtain ⟨d,ed⟩:∃ v,itoaB (p.den:Int)=v:=⟨_,rfl⟩
 try simp only [ed] at c1 c2 ⊢
 obtain ⟨m,em⟩:∃ v,itoaB q.num=v:=⟨_,rfl⟩
 try simp only [em] at c1 c2 ⊢
 obtain ⟨e',ee'⟩:∃ v,itoaB (q.den:Int)=v:=⟨_,rfl⟩
 try simp only [ee'] at c1 c2 ⊢
 have C1:=Lib.hid c1
 have C2:=Lib.hid c2
 clear c1 c2 er ev en ed em ee' hp hq
 have hb0':Below w.heap.size w (w.alloc (Obj.cells #[Value.string n,Value.string d] 120)):=(Below.refl _ _).alloc (Nat.le_refl _) _
 have hb1':Below w.heap.size w ((w.alloc (Obj.cells #[Value.string n,Value.string d] 120)).alloc (Obj.cells #[Value.string m,Value.string e'] 120)):=hb0'.alloc hb0'.size _
 have hb:=hb1'
 clear hb0' hb1'
 have x0:((w.alloc (Obj.cells #[Value.string n,Value.string d] 120)).alloc (Obj.cells #[Value.string m,Value.string e'] 120)).cell? ⟨w.heap.size,0,none⟩=some (Value.string n):=by simp [go_sem]
 have x1:((w.alloc (Obj.cells #[Value.string n,Value.string d] 120)).alloc (Obj.cells #[Value.string m,Value.string e'] 120)).cell? ⟨w.heap.size,1,none⟩=some (Value.string d):=by simp [go_sem]
 have x2:((w.alloc (Obj.cells #[Value.string n,Value.string d] 120)).alloc (Obj.cells #[Value.string m,Value.string e'] 120)).cell? ⟨w.heap.size+1,0,none⟩=some (Value.string m):=by simp [go_sem]
 have x3:((w.alloc (Obj.cells #[Value.string n,Value.string d] 120)).alloc (Obj.cells #[Value.string m,Value.string e'] 120)).cell? ⟨w.heap.size+1,1,none⟩=some (Value.string e'):=by simp [go_sem]
 go_enter Tryz.func140,Tryz.ntmps140
 go_upto_region 1 with fail
 obtain ⟨w1,hw1⟩:∃ w1,(w.alloc (Obj.cells #[Value.string n,Value.string d] 120)).alloc (Obj.cells #[Value.string m,Value.string e'] 120)=w1:=⟨_,rfl⟩
 rw [hw1] at hb x0 x1 x2 x3 ⊢
 clear hw1
 have yx0:=zR x0
 have yx1:=zR x1
 have yx2:=zR x2
 have yx3:=zR x3
 have Aa:=rrR C1 R hb
 have Ab:=rrR C2 R hb
 refine wp_region_quiet_below (by first | assumption | kernel_rfl) (by kernel_rfl) ?_
 repeat (quiet_step (first | (with_reducible exact Aa.out _ _) | (with_reducible exact Ab.out _ _)))
 refine wpQuiet_nil ?_
 intro w1 hw'
 obtain ⟨hk,hb⟩:=zQ hb hw'
 replace x0:=zC hk x0
 replace x1:=zC hk x1
 replace x2:=zC hk x2
 replace x3:=zC hk x3
 clear Aa Ab yx0 yx1 yx2 yx3
 clear hk hw'
 go_wp2_with ((first | (go_at_call 70;with_reducible refine (chRC hb R C1).mono ?_) | (go_at_call 115;with_reducible refine (chRC hb R C2).mono ?_));clear hb;rintro e w1 ⟨rfl,hk,hb⟩;replace x0:=zC hk x0;replace x1:=zC hk x1;replace x2:=zC hk x2;replace x3:=zC hk x3;clear hk)
 go_ret
 exact ⟨rfl,hb⟩
theorem calcSub_yes (s t:ByteArray) (x y u v:Int) (r0:ByteArray) (h1:CR 91 #[.string s] (.tuple #[.int .i64 x,.int .i64 y,.bool true])) (h2:CR 91 #[.string t] (.tuple #[.int .i64 u,.int .i64 v,.bool true])) (h3:CR 139 #[.agg #[.int .i64 x,.int .i64 y],.agg #[.int .i64 u,.int .i64 v]] (.tuple #[.string r0,.bool true])) (w:World) (R:EnvR w) :
   Calls Tryz.prog 65 #[.string s,.string t,.func (Fn.func 139) #[] #[],.func (Fn.func 140) #[] #[]] w (Ret w (.string r0)):=by
 have c1:=h1
 have c2:=h2
 have c3:=h3
 have C1:=Lib.hid c1
 have C2:=Lib.hid c2
 have C3:=Lib.hid c3
 clear c1 c2 c3 h1 h2 h3
 have hb:=Below.refl w.heap.size w
 go_enter Tryz.func65,Tryz.ntmps65
 go_wp2_with ((first | (go_at_call 91;first | with_reducible refine (chRA hb R C1).mono ?_ | with_reducible refine (chRA hb R C2).mono ?_) | (go_at_call 139;with_reducible refine (chRA hb R C3).mono ?_));clear hb;rintro e w1 ⟨rfl,hb⟩)
 go_ret
 exact ⟨rfl,hb⟩
theorem calcSub_not (s t a1 a2 b1 b2:ByteArray) (x y u v:Int) (r0 r1:ByteArray) (h1:CR 91 #[.string s] (.tuple #[.int .i64 x,.int .i64 y,.bool true])) (h2:CR 91 #[.string t] (.tuple #[.int .i64 u,.int .i64 v,.bool true])) (h3:CR 139 #[.agg #[.int .i64 x,.int .i64 y],.agg #[.int .i64 u,.int .i64 v]] (.tuple #[.string r0,.bool false])) (h4:CR 92 #[.string s] (.agg #[.string a1,.string a2])) (h5:CR 92 #[.string t] (.agg #[.string b1,.string b2])) (h6:CR 140 #[.agg #[.string a1,.string a2],.agg #[.string b1,.string b2]] (.string r1)) (w:World) (R:EnvR w) :
   Calls Tryz.prog 65 #[.string s,.string t,.func (Fn.func 139) #[] #[],.func (Fn.func 140) #[] #[]] w (Ret w (.string r1)):=by
 have c1:=h1
 have c2:=h2
 have c3:=h3
 have c4:=h4
 have c5:=h5
 have c6:=h6
 have C1:=Lib.hid c1
 have C2:=Lib.hid c2
 have C3:=Lib.hid c3
 have C4:=Lib.hid c4
 have C5:=Lib.hid c5
 have C6:=Lib.hid c6
 clear c1 c2 c3 c4 c5 c6 h1 h2 h3 h4 h5 h6
 have hb:=Below.refl w.heap.size w
 go_enter Tryz.func65,Tryz.ntmps65
 go_wp2_with ((first | (go_at_call 91;first | with_reducible refine (chRA hb R C1).mono ?_ | with_reducible refine (chRA hb R C2).mono ?_) | (go_at_call 139;with_reducible refine (chRA hb R C3).mono ?_) | (go_at_call 92;first | with_reducible refine (chRA hb R C4).mono ?_ | with_reducible refine (chRA hb R C5).mono ?_) | (go_at_call 140;with_reducible refine (chRA hb R C6).mono ?_));clear hb;rintro e w1 ⟨rfl,hb⟩)
 go_ret
 exact ⟨rfl,hb⟩
theorem calcSub_la (s t a1 a2 b1 b2:ByteArray) (x y u v:Int) (k:Bool) (r1:ByteArray) (h1:CR 91 #[.string s] (.tuple #[.int .i64 x,.int .i64 y,.bool false])) (h2:CR 91 #[.string t] (.tuple #[.int .i64 u,.int .i64 v,.bool k])) (h3:CR 92 #[.string s] (.agg #[.string a1,.string a2])) (h4:CR 92 #[.string t] (.agg #[.string b1,.string b2])) (h5:CR 140 #[.agg #[.string a1,.string a2],.agg #[.string b1,.string b2]] (.string r1)) (w:World) (R:EnvR w) :
   Calls Tryz.prog 65 #[.string s,.string t,.func (Fn.func 139) #[] #[],.func (Fn.func 140) #[] #[]] w (Ret w (.string r1)):=by
 have c1:=h1
 have c2:=h2
 have c3:=h3
 have c4:=h4
 have c5:=h5
 have C1:=Lib.hid c1
 have C2:=Lib.hid c2
 have C3:=Lib.hid c3
 have C4:=Lib.hid c4
 have C5:=Lib.hid c5
 clear c1 c2 c3 c4 c5 h1 h2 h3 h4 h5
 have hb:=Below.refl w.heap.size w
 go_enter Tryz.func65,Tryz.ntmps65
 go_wp2_with ((first | (go_at_call 91;first | with_reducible refine (chRA hb R C1).mono ?_ | with_reducible refine (chRA hb R C2).mono ?_) | (go_at_call 92;first | with_reducible refine (chRA hb R C3).mono ?_ | with_reducible refine (chRA hb R C4).mono ?_) | (go_at_call 140;with_reducible refine (chRA hb R C5).mono ?_));clear hb;rintro e w1 ⟨rfl,hb⟩)
 go_ret
 exact ⟨rfl,hb⟩
theorem calcSub_lb (s t a1 a2 b1 b2:ByteArray) (x y u v:Int) (r1:ByteArray) (h1:CR 91 #[.string s] (.tuple #[.int .i64 x,.int .i64 y,.bool true])) (h2:CR 91 #[.string t] (.tuple #[.int .i64 u,.int .i64 v,.bool false])) (h3:CR 92 #[.string s] (.agg #[.string a1,.string a2])) (h4:CR 92 #[.string t] (.agg #[.string b1,.string b2])) (h5:CR 140 #[.agg #[.string a1,.string a2],.agg #[.string b1,.string b2]] (.string r1)) (w:World) (R:EnvR w) :
   Calls Tryz.prog 65 #[.string s,.string t,.func (Fn.func 139) #[] #[],.func (Fn.func 140) #[] #[]] w (Ret w (.string r1)):=by
 have c1:=h1
 have c2:=h2
 have c3:=h3
 have c4:=h4
 have c5:=h5
 have C1:=Lib.hid c1
 have C2:=Lib.hid c2
 have C3:=Lib.hid c3
 have C4:=Lib.hid c4
 have C5:=Lib.hid c5
 clear c1 c2 c3 c4 c5 h1 h2 h3 h4 h5
 have hb:=Below.refl w.heap.size w
 go_enter Tryz.func65,Tryz.ntmps65
 go_wp2_with ((first | (go_at_call 91;first | with_reducible refine (chRA hb R C1).mono ?_ | with_reducible refine (chRA hb R C2).mono ?_) | (go_at_call 92;first | with_reducible refine (chRA hb R C3).mono ?_ | with_reducible refine (chRA hb R C4).mono ?_) | (go_at_call 140;with_reducible refine (chRA hb R C5).mono ?_));clear hb;rintro e w1 ⟨rfl,hb⟩)
 go_ret
 exact ⟨rfl,hb⟩
theorem sub_flag {p q:Rat} (h:(pf p.num q.den && pf (-q.num) p.den && pf (p.den:Int) q.den)=true):Rat.divInt (pv p.num q.den+pv (-q.num) p.den) (pv p.den q.den)=p - q:=by
 rw [Rat.sub_eq_add_neg]
 exact add_flag (p:=p) (q:=-q) h
theorem subInts_any (a b c d:Int) (ha0 : -1000000000000000000 < a) (ha1:a < 1000000000000000000) (hc0 : -1000000000000000000 < c) (hc1:c < 1000000000000000000) (hb0:0 < b) (hb1:b < 1000000000000000000) (hd0:0 < d) (hd1:d < 1000000000000000000) (w:World) (R:EnvR w) :
   Calls Tryz.prog 139 #[.agg #[.int .i64 a,.int .i64 b],.agg #[.int .i64 c,.int .i64 d]] w (Ret w (.tuple #[.string (ratB (Rat.divInt (pv a d+pv (-c) b) (pv b d))),.bool (pf a d && pf (-c) b && pf b d)])):=
 subInts_w a b c d _ _ hc0 hc1 (fun w R=>addInts_any a b (-c) d ha0 ha1 (by omega) (by omega) hb0 hb1 hd0 hd1 w R) w R
theorem calcSub_any (p q:Rat) (w:World) (R:EnvR w) (hp:RL p 10000) (hq:RL q 10000) :
   Calls Tryz.prog 65 #[.string (ratB p),.string (ratB q),.func (Fn.func 139) #[] #[],.func (Fn.func 140) #[] #[]] w (Ret w (.string (ratB (p - q)))):=by
 have lp:=fun w R=>partsOf_any p (hp.mono (by decide)) w R
 have lq:=fun w R=>partsOf_any q (hq.mono (by decide)) w R
 have lo:=fun w R=>subLong_any p q hp hq w R
 have p0:=p.den_pos
 have q0:=q.den_pos
 by_cases h1:shortQ p
 · have c1:=fun w R=>rsmall_yes p h1 w R
   by_cases h2:shortQ q
   · have c2:=fun w R=>rsmall_yes q h2 w R
     have ci:=fun w R=>subInts_any p.num p.den q.num q.den h1.1 h1.2.1 h2.1 h2.2.1 (by omega) (by have:=h1.2.2;omega) (by omega) (by have:=h2.2.2;omega) w R
     cases hf:(pf p.num q.den && pf (-q.num) p.den && pf (p.den:Int) q.den) with
     | true =>
       rw [hf] at ci
       rw [sub_flag hf] at ci
       exact calcSub_yes _ _ _ _ _ _ _ c1 c2 ci w R
     | false =>
       rw [hf] at ci
       exact calcSub_not _ _ _ _ _ _ _ _ _ _ _ _ c1 c2 ci lp lq lo w R
   · exact calcSub_lb _ _ _ _ _ _ _ _ _ _ _ c1 (fun w R=>rsmall_no q h2 w R (hq.mono (by decide))) lp lq lo w R
 · by_cases h2:shortQ q
   · exact calcSub_la _ _ _ _ _ _ _ _ _ _ _ _ (fun w R=>rsmall_no p h1 w R (hp.mono (by decide))) (fun w R=>rsmall_yes q h2 w R) lp lq lo w R
   · exact calcSub_la _ _ _ _ _ _ _ _ _ _ _ _ (fun w R=>rsmall_no p h1 w R (hp.mono (by decide))) (fun w R=>rsmall_no q h2 w R (hq.mono (by decide))) lp lq lo w R
theorem rsub_any (p q:Rat) (hp:RL p 10000) (hq:RL q 10000) (w:World) (R:EnvR w) :
   Calls Tryz.prog 112 #[.string (ratB p),.string (ratB q)] w (Ret w (.string (ratB (p - q)))):=by
 have c1:=fun (w:World) (R:EnvR w)=>calcSub_any p q w R hp hq
 obtain ⟨r,er⟩:∃ v,ratB (p - q)=v:=⟨_,rfl⟩
 try simp only [er] at c1 ⊢
 obtain ⟨a,ea⟩:∃ v,ratB p=v:=⟨_,rfl⟩
 try simp only [ea] at c1 ⊢
 obtain ⟨b,eb⟩:∃ v,ratB q=v:=⟨_,rfl⟩
 try simp only [eb] at c1 ⊢
 have C1:=Lib.hid c1
 clear c1 er ea eb hp hq
 have hb:=Below.refl w.heap.size w
 go_enter Tryz.func112,Tryz.ntmps112
 go_wp2_with (go_at_call 65;with_reducible refine (chRA hb R C1).mono ?_;clear hb;rintro e w1 ⟨rfl,hb⟩)
 go_ret
 exact ⟨rfl,hb⟩
def sumQ (l:List Rat) (k:Nat):Rat:=(l.take k).foldl (· + ·) 0
theorem sumQ_step (l:List Rat) (k:Nat) (q:Rat) (h:l[k]? = some q):sumQ l (k+1)=sumQ l k+q:=by
 unfold sumQ
 rw [List.take_add_one,h]
 show ((l.take k) ++ [q]).foldl _ _=_
 rw [List.foldl_append];rfl
theorem rsum_w (blk n c:Nat) (l:List Rat) (hn:l.length=n) (hnb:n≤10) (hR:∀ k,k≤n→RL (sumQ l k) 5000) (hq:∀ q,q ∈ l→RL q 5000) (w:World) (R:EnvR w) (hc:∀ (j:Nat) (q:Rat),l[j]? = some q→w.cell? ⟨blk,j,none⟩=some (.string (ratB q))) :
   Calls Tryz.prog 87 #[.slice (some ⟨blk,0,none⟩) n c] w (Ret w (.string (ratB (sumQ l n)))):=by
 have HC:=Lib.hid hc
 have HR:=Lib.hid hR
 have HQ:=Lib.hid hq
 have HN:=Lib.hid hn
 clear hc hR hq hn
 go_enter Tryz.func87,Tryz.ntmps87
 go_wp2
 go_loopw [3,8] (fun s i wr=>∃ k:Nat,k≤n∧i = .int .i64 k∧s = .string (ratB (sumQ l k))∧Below w.heap.size w wr) (fun _ i _=>n - (intOf i).toNat)
 case atStart=>exact ⟨0,Nat.zero_le _,rfl,congrArg Value.string ratB_zero.symm,Below.refl _ _⟩
 case round =>
   obtain ⟨k,hk,rfl,rfl,hb⟩:=hrel
   by_cases hlt:k < n
   · obtain ⟨q,ht⟩:∃ q,l[k]? = some q:=⟨_,List.getElem?_eq_getElem (by rw [HN.out];exact hlt)⟩
     have x0:wr.cell? ⟨blk,k,none⟩=some (.string (ratB q)):=zC hb (HC.out k q ht)
     have hst:=sumQ_step l k q ht
     have c1:CR 81 #[.string (ratB (sumQ l k)),.string (ratB q)] (.string (ratB (sumQ l (k+1)))):=fun w R=>by
       rw [hst];exact radd_any _ _ ((HR.out k (by omega)).mono (by decide)) ((HQ.out q (List.mem_of_getElem? ht)).mono (by decide)) w R
     obtain ⟨u,eu⟩:∃ u,ratB (sumQ l (k+1))=u:=⟨_,rfl⟩
     obtain ⟨v,ev⟩:∃ v,ratB (sumQ l k)=v:=⟨_,rfl⟩
     obtain ⟨t,et⟩:∃ t,ratB q=t:=⟨_,rfl⟩
     simp only [eu,ev,et] at c1 x0 ⊢
     have C1:=Lib.hid c1
     have EU:=Lib.hid eu
     clear c1 hst ht eu ev et
     go_wp2_with (go_at_call 81;with_reducible refine (chRC hb R C1).mono ?_;clear hb;rintro e w1 ⟨rfl,hk2,hb⟩;clear hk2)
     go_roundw
     case rel=>exact ⟨k+1,by omega,by go_num,by rw [EU.out],hb⟩
     case measure=>simp [intOf];omega
   · have ek:k=n:=by omega
     subst ek
     go_wp2
     go_ret
     exact ⟨rfl,hb⟩
set_option maxRecDepth 512 in
theorem rsum3 (p q t:Rat) (hp:RL p 80) (hq:RL q 80) (ht:RL t 80) (w:World) (R:EnvR w) :
   Calls Tryz.prog 87 #[.slice (some ⟨w.heap.size,0,none⟩) 3 3] (w.alloc (Obj.cells #[Value.string (ratB p),Value.string (ratB q),Value.string (ratB t)] 22)) (Ret w (.string (ratB (p+q+t)))):=by
 have hba:Below w.heap.size w (w.alloc (Obj.cells #[Value.string (ratB p),Value.string (ratB q),Value.string (ratB t)] 22)):=(Below.refl _ _).alloc (Nat.le_refl _) _
 have e3:sumQ [p,q,t] 3=p+q+t:=by show 0+p+q+t=_;rw [Rat.zero_add]
 have r2:=RL_add (by decide) hp hq
 have r3:=RL_add (by decide) r2 ht
 rw [← e3]
 refine (rsum_w w.heap.size 3 3 [p,q,t] rfl (by decide) (fun k hk=>?_) (fun x hx=>?_) _ (R.below hba) (fun j x h=>?_)).mono fun e w' h=>⟨h.1,hba.trans (h.2.mono hba.size)⟩
 · match k,hk with
   | 0,_=>exact ⟨by show dlen 0≤5000;decide +kernel,by show dlen ((1:Nat):Int)≤5000;decide +kernel⟩
   | 1,_=>have e:sumQ [p,q,t] 1=p:=Rat.zero_add p;rw [e];exact hp.mono (by decide)
   | 2, _ => have e:sumQ [p,q,t] 2=p+q:=by show 0+p+q=_;rw [Rat.zero_add]
             rw [e];exact r2.mono (by decide)
   | 3,_=>rw [e3];exact r3.mono (by decide)
 · simp only [List.mem_cons,List.not_mem_nil,or_false] at hx
   rcases hx with rfl | rfl | rfl
   · exact hp.mono (by decide)
   · exact hq.mono (by decide)
   · exact ht.mono (by decide)
 · match j,h with
   | 0,h=>injection h with h;subst h;simp [go_sem]
   | 1,h=>injection h with h;subst h;simp [go_sem]
   | 2,h=>injection h with h;subst h;simp [go_sem]
   | j+3,h=>simp at h
end Go.Proofs.YtpiiclmkbplkhaaGreatDoor.Kl
