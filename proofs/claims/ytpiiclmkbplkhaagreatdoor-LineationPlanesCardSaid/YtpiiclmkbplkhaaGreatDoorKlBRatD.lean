import Derived.Test.YtpiiclmkbplkhaaGreatDoorKlBBuf
import Derived.Test.YtpiiclmkbplkhaaGreatDoorKlBRatZ
namespace Go.Proofs.YtpiiclmkbplkhaaGreatDoor.Kl
open Go Go.RowKit
set_option maxRecDepth 100000
set_option maxHeartbeats 8000000
def pv (a b:Int):Int:=if a.natAbs*b.natAbs < 4611686018427387904 then a*b else 1
def pf (a b:Int):Bool:=decide (a.natAbs*b.natAbs < 4611686018427387904)
theorem pv_of {a b:Int} (h:pf a b=true):pv a b=a*b:=by
 unfold pf at h;unfold pv;rw [decide_eq_true_eq] at h;rw [if_pos h]
theorem pv_bound (a b:Int) : -4611686018427387904 < pv a b∧pv a b < 4611686018427387904:=by
 unfold pv
 split
 · next h =>
   rw [← Int.natAbs_mul] at h
   omega
 · omega
theorem pv_pos (a b:Int) (ha:0 < a) (hb:0 < b):0 < pv a b:=by
 unfold pv
 split
 · exact Int.mul_pos ha hb
 · decide
theorem size_pos (n:Int) (h0:0≤n) (h1:n < 9223372036854775808) (w:World) (_R:EnvR w) :
   Calls Tryz.prog 94 #[.int .i64 n] w (Ret w (.int .u64 n)):=by
 have e:max n (-n)=n:=by omega
 have hb:=Below.refl w.heap.size w
 go_enter Tryz.func94,Tryz.ntmps94
 go_wp2
 go_ret
 exact ⟨retI (by omega),hb⟩
theorem size_neg (n:Int) (h0:n < 0) (h1 : -9223372036854775808 < n) (w:World) (_R:EnvR w) :
   Calls Tryz.prog 94 #[.int .i64 n] w (Ret w (.int .u64 (-n))):=by
 have e:max n (-n) = -n:=by omega
 have hb:=Below.refl w.heap.size w
 go_enter Tryz.func94,Tryz.ntmps94
 go_wp2
 go_ret
 exact ⟨retI (by omega),hb⟩
theorem size_any (n:Int) (h0 : -9223372036854775808 < n) (h1:n < 9223372036854775808) (w:World) (R:EnvR w) :
   Calls Tryz.prog 94 #[.int .i64 n] w (Ret w (.int .u64 (n.natAbs:Int))):=by
 by_cases h:0≤n
 · rw [show (n.natAbs:Int)=n by omega];exact size_pos n h h1 w R
 · rw [show (n.natAbs:Int) = -n by omega];exact size_neg n (by omega) h0 w R
theorem mul64_call (X Y H L:Nat) (hx:X < 18446744073709551616) (hy:Y < 18446744073709551616) (hH:X*Y / 18446744073709551616=H) (hL:X*Y % 18446744073709551616=L) (w:World) :
   Calls Tryz.prog 93 #[.int .u64 (X:Int),.int .u64 (Y:Int)] w (Ret w (.tuple #[.int .u64 (H:Int),.int .u64 (L:Int)])):=by
 subst hH hL
 refine (Tryz.bits_Mul64 X Y hx hy w).mono ?_
 rintro e w' ⟨he,rfl⟩
 exact ⟨he,Below.refl _ _⟩
theorem product_yes (a b X Y L:Int) (hl0:0≤L) (hl:L < 4611686018427387904) (hw:IntKind.i64.wrap (a*b)=a*b) (h1':CR 94 #[.int .i64 a] (.int .u64 X)) (h2':CR 94 #[.int .i64 b] (.int .u64 Y)) (h3':CR 93 #[.int .u64 X,.int .u64 Y] (.tuple #[.int .u64 0,.int .u64 L])) (w:World) (R:EnvR w) :
   Calls Tryz.prog 98 #[.int .i64 a,.int .i64 b] w (Ret w (.tuple #[.int .i64 (a*b),.bool true])):=by
 have c1:=h1'
 have c2:=h2'
 have c3:=h3'
 have C1:=Lib.hid c1
 have C2:=Lib.hid c2
 have C3:=Lib.hid c3
 clear c1 c2 c3 h1' h2' h3'
 have hb:=Below.refl w.heap.size w
 go_enter Tryz.func98,Tryz.ntmps98
 go_wp2_with ((first | (go_at_call 94;first | with_reducible refine (chRA hb R C1).mono ?_ | with_reducible refine (chRA hb R C2).mono ?_) | (go_at_call 93;with_reducible refine (chRA hb R C3).mono ?_));clear hb;rintro e w1 ⟨rfl,hb⟩)
 go_ret2
 exact ⟨rfl,hb⟩
theorem product_low (a b X Y L:Int) (hl:4611686018427387904≤L) (h1':CR 94 #[.int .i64 a] (.int .u64 X)) (h2':CR 94 #[.int .i64 b] (.int .u64 Y)) (h3':CR 93 #[.int .u64 X,.int .u64 Y] (.tuple #[.int .u64 0,.int .u64 L])) (w:World) (R:EnvR w) :
   Calls Tryz.prog 98 #[.int .i64 a,.int .i64 b] w (Ret w (.tuple #[.int .i64 1,.bool false])):=by
 have c1:=h1'
 have c2:=h2'
 have c3:=h3'
 have C1:=Lib.hid c1
 have C2:=Lib.hid c2
 have C3:=Lib.hid c3
 clear c1 c2 c3 h1' h2' h3'
 have hb:=Below.refl w.heap.size w
 go_enter Tryz.func98,Tryz.ntmps98
 go_wp2_with ((first | (go_at_call 94;first | with_reducible refine (chRA hb R C1).mono ?_ | with_reducible refine (chRA hb R C2).mono ?_) | (go_at_call 93;with_reducible refine (chRA hb R C3).mono ?_));clear hb;rintro e w1 ⟨rfl,hb⟩)
 go_ret2
 exact ⟨rfl,hb⟩
theorem product_high (a b X Y H L:Int) (hh:0 < H) (h1':CR 94 #[.int .i64 a] (.int .u64 X)) (h2':CR 94 #[.int .i64 b] (.int .u64 Y)) (h3':CR 93 #[.int .u64 X,.int .u64 Y] (.tuple #[.int .u64 H,.int .u64 L])) (w:World) (R:EnvR w) :
   Calls Tryz.prog 98 #[.int .i64 a,.int .i64 b] w (Ret w (.tuple #[.int .i64 1,.bool false])):=by
 have c1:=h1'
 have c2:=h2'
 have c3:=h3'
 have C1:=Lib.hid c1
 have C2:=Lib.hid c2
 have C3:=Lib.hid c3
 clear c1 c2 c3 h1' h2' h3'
 have hb:=Below.refl w.heap.size w
 go_enter Tryz.func98,Tryz.ntmps98
 go_wp2_with ((first | (go_at_call 94;first | with_reducible refine (chRA hb R C1).mono ?_ | with_reducible refine (chRA hb R C2).mono ?_) | (go_at_call 93;with_reducible refine (chRA hb R C3).mono ?_));clear hb;rintro e w1 ⟨rfl,hb⟩)
 go_ret2
 exact ⟨rfl,hb⟩
theorem product_any (a b:Int) (ha0 : -9223372036854775808 < a) (ha1:a < 9223372036854775808) (hb0 : -9223372036854775808 < b) (hb1:b < 9223372036854775808) (w:World) (R:EnvR w) :
   Calls Tryz.prog 98 #[.int .i64 a,.int .i64 b] w (Ret w (.tuple #[.int .i64 (pv a b),.bool (pf a b)])):=by
 obtain ⟨X,hX⟩:∃ X,a.natAbs=X:=⟨_,rfl⟩
 obtain ⟨Y,hY⟩:∃ Y,b.natAbs=Y:=⟨_,rfl⟩
 unfold pv pf
 rw [hX,hY]
 have c1:CR 94 #[.int .i64 a] (.int .u64 (X:Int)):=fun w R=>by have:=size_any a ha0 ha1 w R;rwa [hX] at this
 have c2:CR 94 #[.int .i64 b] (.int .u64 (Y:Int)):=fun w R=>by have:=size_any b hb0 hb1 w R;rwa [hY] at this
 by_cases h:X*Y < 4611686018427387904
 · rw [if_pos h,decide_eq_true h]
   have hm:(a*b).natAbs < 4611686018427387904:=by rw [Int.natAbs_mul,hX,hY];exact h
   exact product_yes a b X Y (X*Y:Nat) (by omega) (by omega) (IntWalk.i64_in _ (by omega)) c1 c2 (fun w R=>mul64_call X Y 0 (X*Y) (by omega) (by omega) (Nat.div_eq_of_lt (by omega)) (Nat.mod_eq_of_lt (by omega)) w) w R
 · rw [if_neg h,decide_eq_false h]
   by_cases h2:X*Y < 18446744073709551616
   · exact product_low a b X Y (X*Y:Nat) (by omega) c1 c2 (fun w R=>mul64_call X Y 0 (X*Y) (by omega) (by omega) (Nat.div_eq_of_lt h2) (Nat.mod_eq_of_lt h2) w) w R
   · exact product_high a b X Y ((X*Y / 18446744073709551616:Nat):Int) ((X*Y % 18446744073709551616:Nat):Int) (by have:=Nat.div_pos (Nat.le_of_not_lt h2) (by decide:0 < 18446744073709551616);omega) c1 c2 (fun w R=>mul64_call X Y _ _ (by omega) (by omega) rfl rfl w) w R
theorem quo_exact (n:Int) (G:Nat) (h:(G:Int) ∣ n):n.tdiv (G:Int)=n / (G:Int):=Int.tdiv_eq_ediv_of_dvd h
theorem quo_bound (n:Int) (G:Nat) (h0 : -9223372036854775808 < n) (h1:n < 9223372036854775808) : -9223372036854775808 < n / (G:Int)∧n / (G:Int) < 9223372036854775808:=by
 have:=Int.natAbs_ediv_le_natAbs n (G:Int);omega
theorem reduce_w (n x y:Int) (d D0 G:Nat) (r:ByteArray) (hn0 : -9223372036854775808 < n) (hn1:n < 9223372036854775808) (hd1:d < 9223372036854775808) (hG0:0 < G) (hg:Nat.gcd d D0=G) (hD:max n (-n)=(D0:Int)) (hDb:D0 < 9223372036854775808)
   (hx:n.tdiv (G:Int)=x) (hy:(d:Int).tdiv (G:Int)=y) (hx0 : -9223372036854775808 < x) (hx1:x < 9223372036854775808) (hy0:0 < y) (hy1:y < 9223372036854775808)
   (h1:d=G→strOf (Lib.itoa x)=r) (h2:d≠G→strOf (Lib.itoa x ++ [47] ++ Lib.itoa y)=r) (w:World) (R:EnvR w) :
   Calls Tryz.prog 99 #[.int .i64 n,.int .i64 (d:Int)] w (Ret w (.string r)):=by
 have H1:=Lib.hid h1
 have H2:=Lib.hid h2
 have HX:=Lib.hid hx
 have HY:=Lib.hid hy
 have HG:=Lib.hid hg
 clear h1 h2 hx hy hg
 go_enter Tryz.func99,Tryz.ntmps99
 go_wp2
 clear hD
 go_loopw [5,6] (fun a b wr=>∃ p q:Nat,a = .int .i64 p∧b = .int .i64 q∧p < 9223372036854775808∧q < 9223372036854775808∧Nat.gcd p q=G∧Below w.heap.size w wr) (fun _ b _=>(intOf b).toNat)
 case atStart=>exact ⟨d,D0,rfl,rfl,hd1,hDb,HG.out,Below.refl _ _⟩
 case round =>
   obtain ⟨p,q,rfl,rfl,hp,hq,hg,hb⟩:=hrel
   have HGG:=Lib.hid hg
   clear hg
   by_cases h0:q=0
   · subst h0
     have e:p=G:=by rw [← HGG.out];simp
     subst e
     have hp0:((p:Int) == 0)=false:=by rw [beq_eq_false_iff_ne];omega
     have hpn:¬ (p=0):=by omega
     have hwx:IntKind.i64.wrap x=x:=IntWalk.i64_in _ (by omega)
     have hwy:IntKind.i64.wrap y=y:=IntWalk.i64_in _ (by omega)
     have hx:=HX.out
     have hlx:(Lib.itoa x).length≤20:=by have e:=itoa_len x;unfold dlen at e;have:=dec_len_le x.natAbs 19 (by omega) (by decide);split at e <;> omega
     have hly:(Lib.itoa y).length≤19:=by rw [itoa_nat y (by omega)];exact dec_len_le _ _ (by omega) (by decide)
     have hal : Tryz.prog.arrayLen 156=40:=by kernel_rfl
     have hsl:∀ W,(Instr.sliceAt 156 (.pointer (some ⟨wr.heap.size,0,none⟩)) none (some (.int .i64 0)) none).run Tryz.prog W = .ok (.slice (some ⟨wr.heap.size,0,none⟩) 0 40) W:=fun W=>by
       rw [run_sliceAt_array_h W 156 ⟨wr.heap.size,0,none⟩ (by kernel_rfl) .i64 0 (by omega) (by rw [hal];omega)]
       go_simp
     clear hal
     go_wp2
     obtain ⟨W1,hW1⟩:∃ W1,wr.alloc (Obj.cells #[Value.int IntKind.u8 0,Value.int IntKind.u8 0,Value.int IntKind.u8 0,Value.int IntKind.u8 0,Value.int IntKind.u8 0,Value.int IntKind.u8 0,Value.int IntKind.u8 0,Value.int IntKind.u8 0,Value.int IntKind.u8 0,Value.int IntKind.u8 0,Value.int IntKind.u8 0,Value.int IntKind.u8 0,Value.int IntKind.u8 0,Value.int IntKind.u8 0,Value.int IntKind.u8 0,Value.int IntKind.u8 0,Value.int IntKind.u8 0,Value.int IntKind.u8 0,Value.int IntKind.u8 0,Value.int IntKind.u8 0,Value.int IntKind.u8 0,Value.int IntKind.u8 0,Value.int IntKind.u8 0,Value.int IntKind.u8 0,Value.int IntKind.u8 0,Value.int IntKind.u8 0,Value.int IntKind.u8 0,Value.int IntKind.u8 0,Value.int IntKind.u8 0,Value.int IntKind.u8 0,Value.int IntKind.u8 0,Value.int IntKind.u8 0,Value.int IntKind.u8 0,Value.int IntKind.u8 0,Value.int IntKind.u8 0,Value.int IntKind.u8 0,Value.int IntKind.u8 0,Value.int IntKind.u8 0,Value.int IntKind.u8 0,Value.int IntKind.u8 0] 156)=W1:=⟨_,rfl⟩
     have hb1:Below w.heap.size w W1:=by rw [← hW1];exact hb.alloc hb.size _
     have B1:Buf W1 wr.heap.size 156 40 []:=by rw [← hW1];exact ⟨_,World.alloc_heap_new _ _,rfl,rfl⟩
     rw [hW1]
     clear hW1
     go_still_tail 4,(by kernel_rfl)
     change wpList _ _ _ _ _ W1.drew
     obtain ⟨W2,hW2⟩:∃ W2,W1.drew=W2:=⟨_,rfl⟩
     have hb2:Below w.heap.size w W2:=by rw [← hW2];exact hb1.drew
     have B2:Buf W2 wr.heap.size 156 40 []:=by rw [← hW2];exact B1.drew
     rw [hW2]
     clear hW2 hb1 B1
     have CA:Hid (Calls Tryz.prog 125 #[.slice (some ⟨wr.heap.size,0,none⟩) 0 40,.int .i64 x,.int .i64 10] W2 fun e w' => e = .returned (.slice (some ⟨wr.heap.size,0,none⟩) (Lib.itoa x).length 40)∧Buf w' wr.heap.size 156 40 (Lib.itoa x)∧Below w.heap.size w w'):=by
       refine Lib.hid ?_
       have:=appendInt_buf w W2 R.env wr.heap.size 40 156 [] x (by omega) (by omega) hb2 hb.size B2 (by rw [List.length_nil];omega)
       simpa only [List.length_nil,Nat.zero_add,List.nil_append] using this
     go_wp2_with (go_at_call 125;refine CA.out.mono ?_;rintro e w3 ⟨rfl,B3,hb3⟩;refine Hid.out ?_)
     refine Lib.hid ?_
     by_cases hd:d=p
     · have hdi:((d:Int) == (p:Int))=true:=by rw [beq_iff_eq];omega
       have hdn:((d:Int) != (p:Int))=false:=by rw [bne,hdi];rfl
       have hconv:=run_convert_bytes_back (P:=Tryz.prog) w3 157 22 5 ⟨wr.heap.size,0,none⟩ 40 (Lib.itoa x) Tryz.underlying157 Tryz.underlying5 Tryz.underlying22 (by obtain ⟨cur,hh,_,ht⟩:=B3;exact Lib.bytes_of_row hh ht)
       go_wp2
       go_ret
       exact ⟨retS (H1.out hd),hb3⟩
     · have hdi:((d:Int) == (p:Int))=false:=by rw [beq_eq_false_iff_ne];omega
       have hdn:((d:Int) != (p:Int))=true:=by rw [bne,hdi];rfl
       have hy:=HY.out
       obtain ⟨i0,hi,hz0,hz1,hz2⟩:=byteInfo
       have Ba:∀ o,Buf (w3.alloc o) wr.heap.size 156 40 (Lib.itoa x):=fun o=>B3.kept (Below.heap_alloc _ _ _ B3.lt)
       go_wp2_with (at_builtin;refine wpBuf_append _ rfl _ _ 157 rfl 5 i0 Tryz.underlying157 hi hz1 wr.heap.size 40 156 (Lib.itoa x) [47] rfl (Ba _) ⟨w3.heap.size,0,none⟩ 1 rfl (by intro j u' hj;match j,hj with | 0,hj=>simp [Lib.byteCells] at hj;subst hj;simp [Addr.add]) (by simp only [List.length_cons,List.length_nil];omega) ?_)
       intro w4 B4 hgrow
       have hb4:Below w.heap.size w w4:=(hb3.alloc hb3.size _).grown hgrow (by have:=hb3.size;simp;omega) (fun k hk=>by injection hk with hk;have:=hb.size;omega)
       have CB:Hid (Calls Tryz.prog 125 #[.slice (some ⟨wr.heap.size,0,none⟩) ((Lib.itoa x).length+1) 40,.int .i64 y,.int .i64 10] w4 fun e w' => e = .returned (.slice (some ⟨wr.heap.size,0,none⟩) (Lib.itoa x ++ [47] ++ Lib.itoa y).length 40)∧Buf w' wr.heap.size 156 40 (Lib.itoa x ++ [47] ++ Lib.itoa y)∧Below w.heap.size w w'):=by
         refine Lib.hid ?_
         have:=appendInt_buf w w4 R.env wr.heap.size 40 156 (Lib.itoa x ++ [47]) y (by omega) (by omega) hb4 hb.size B4 (by rw [List.length_append];simp only [List.length_cons,List.length_nil];omega)
         rw [← List.length_append] at this
         rwa [show (Lib.itoa x ++ [(47:UInt8)]).length=(Lib.itoa x).length+1 by simp] at this
       obtain ⟨lz,hlz⟩:∃ lz,Lib.itoa x ++ [47] ++ Lib.itoa y=lz:=⟨_,rfl⟩
       rw [hlz] at CB H2
       clear B3 Ba hgrow hlz
       go_wp2_with (go_at_call 125;refine CB.out.mono ?_;rintro e w5 ⟨rfl,B5,hb5⟩;have hconv:=run_convert_bytes_back (P:=Tryz.prog) w5 157 22 5 ⟨wr.heap.size,0,none⟩ 40 lz Tryz.underlying157 Tryz.underlying5 Tryz.underlying22 (by obtain ⟨cur,hh,_,ht⟩:=B5;exact Lib.bytes_of_row hh ht))
       go_ret
       exact ⟨retS (H2.out hd),hb5⟩
   · have hne:((q:Int) == 0)=false:=by simpa using h0
     have hpos:(0:Int) < (q:Int):=by omega
     go_wp2
     go_quiet (fail)
     go_wp2
     go_roundw
     case rel=>exact ⟨q,p % q,rfl,by go_num,hq,by have:=Nat.mod_lt p (Nat.pos_of_ne_zero h0);omega,by rw [← HGG.out,Nat.gcd_comm p q,Nat.gcd_rec q p,Nat.gcd_comm];done,Below.drews hb _⟩
     case measure=>simp [intOf];have:=Int.emod_lt_of_pos (p:Int) hpos;omega
theorem rreduce_any (n d:Int) (hn0 : -9223372036854775808 < n) (hn1:n < 9223372036854775808) (hd0:0 < d) (hd1:d < 9223372036854775808) (w:World) (R:EnvR w) :
   Calls Tryz.prog 99 #[.int .i64 n,.int .i64 d] w (Ret w (.string (ratB (Rat.divInt n d)))):=by
 obtain ⟨D,rfl⟩:∃ D:Nat,d=D:=⟨d.toNat,by omega⟩
 obtain ⟨h1,h2⟩:=mk_parts n D hd0
 have hr:=ratB_of _ _ _ h1 h2
 have v1:=gcd_dvd1 n (D:Int)
 have v2:=gcd_dvd2 n (D:Int)
 have hp:=(Rat.divInt n (D:Int)).den_pos
 rw [Int.natAbs_natCast] at h1 h2 hr v1 v2
 have hG0:0 < Nat.gcd n.natAbs D:=Nat.gcd_pos_of_pos_right _ (by omega)
 obtain ⟨G,hG⟩:∃ G,Nat.gcd n.natAbs D=G:=⟨_,rfl⟩
 rw [hG] at h1 h2 hr v1 v2 hG0
 have b1:=quo_bound n G hn0 hn1
 have b2:=quo_bound (D:Int) G (by omega) hd1
 have hm:(D:Int) / (G:Int)*(G:Int)=D:=Int.ediv_mul_cancel v2
 rw [hr]
 refine reduce_w n _ _ D n.natAbs G _ hn0 hn1 (by omega) hG0 (by rw [Nat.gcd_comm];exact hG) (by omega) (by omega) (quo_exact n G v1) (quo_exact _ G v2) b1.1 b1.2 (by omega) b2.2 (fun e=>?_) (fun e=>?_) w R
 · have e1:(D:Int) / (G:Int)=1:=by rw [e];exact Int.ediv_self (by omega)
   rw [if_pos e1];rfl
 · have e1:¬ (D:Int) / (G:Int)=1:=fun e1=>e (by rw [e1] at hm;omega)
   rw [if_neg e1]
   refine dat_inj ?_
   rw [cat_slash]
   show (Lib.itoa (n / (G:Int)) ++ [47]) ++ Lib.itoa ((D:Int) / (G:Int))=Lib.itoa (n / (G:Int)) ++ 47 :: Lib.itoa ((D:Int) / (G:Int))
   rw [List.append_assoc];rfl
end Go.Proofs.YtpiiclmkbplkhaaGreatDoor.Kl
