import Derived.Test.YtpennccflalobaaGreatDoorKlVSumsRefDiv
import Derived.Test.YtpennccflalobaaGreatDoorKlBRatZ
namespace Go.Proofs.YtpennccflalobaaGreatDoor.Kl
open Go
set_option maxRecDepth 100000
set_option maxHeartbeats 8000000
theorem idx_miss : ∀ {l:List UInt8},(47:UInt8) ∉ l→Lib.indexByte l 47 = -1
 | [],_=>rfl
 | b :: l,h=>by
   have hb:(b == 47)=false:=by rw [beq_eq_false_iff_ne];exact fun e=>h (by simp [e])
   have ih:=idx_miss (l:=l) (fun hm=>h (List.mem_cons_of_mem _ hm))
   unfold Lib.indexByte
   rw [hb,ih];rfl
theorem idx_hit : ∀ {a b:List UInt8},(47:UInt8) ∉ a→Lib.indexByte (a ++ 47 :: b) 47=a.length
 | [],_,_=>rfl
 | c :: a,b,h=>by
   have hb:(c == 47)=false:=by rw [beq_eq_false_iff_ne];exact fun e=>h (by simp [e])
   have ih:=idx_hit (a:=a) (b:=b) (fun hm=>h (List.mem_cons_of_mem _ hm))
   rw [List.cons_append]
   unfold Lib.indexByte
   rw [hb,ih,if_neg (by decide),if_neg (by rw [beq_iff_eq];omega)]
   simp
theorem head_itoa (n:Int) (m:List UInt8):(Lib.itoa n ++ m).head? = (Lib.itoa n).head?:=by
 refine head_append_ne ?_
 unfold Lib.itoa;split
 · simp
 · exact decDigits_ne _
theorem neg_ratS (q:Rat):neg (ratS q)=decide (q.num < 0):=by
 rw [← neg_itoa]
 unfold ratS neg
 split
 · rfl
 · rw [head_itoa]
theorem ratS_minus {q:Rat} (h:0 < q.num):45 :: ratS q=ratS (-q):=by
 have e:Lib.itoa (-q.num)=45 :: Lib.itoa q.num:=by
   unfold Lib.itoa;rw [if_pos (by omega),if_neg (by omega),show (-q.num).natAbs=q.num.toNat by omega]
 unfold ratS
 show _=(if q.den=1 then Lib.itoa (-q.num) else Lib.itoa (-q.num) ++ 47 :: Lib.itoa q.den)
 rw [e];split <;> rfl
theorem ratB_plus {q:Rat} (h:0 < q.num):(⟨#[45]⟩:ByteArray) ++ ratB q=ratB (-q):=by
 refine dat_inj ?_
 show _=ratS (-q)
 rw [← ratS_minus h,ByteArray.data_append,Array.toList_append];rfl
theorem ratB_tail {q:Rat} (h:q.num < 0):(ratB q).extract 1 (ratB q).size=ratB (-q):=by
 refine dat_inj ?_
 rw [Lib.extract_to_end]
 show (ratS q).drop 1=ratS (-q)
 have e:=ratS_minus (q:=-q) (by show 0 < -q.num;omega)
 rw [Rat.neg_neg] at e
 rw [← e];rfl
theorem ratB_pos (q:Rat):0 < (ratB q).size:=by
 have:=ratS_len q;have:=dlen_pos q.num;rw [ratB_size];omega
end Go.Proofs.YtpennccflalobaaGreatDoor.Kl
namespace Go.Proofs.YtpennccflalobaaGreatDoor.Kl
open Go Go.RowKit
set_option maxRecDepth 100000
set_option maxHeartbeats 8000000
theorem idx_ratB (q:Rat) (w:World) :
   Calls Tryz.prog 81 #[.string (ratB q),.int .u8 47] w (Ret w (.int .i64 (if q.den=1 then -1 else ((Lib.itoa q.num).length:Int)))):=by
 refine (Tryz.strings_IndexByte (ratB q) 47 w).mono ?_
 rintro e w' ⟨he,rfl⟩
 refine ⟨?_,Below.refl _ _⟩
 rw [he]
 refine retI ?_
 show Lib.indexByte (ratS q) 47=_
 by_cases h:q.den=1
 · rw [ratS_int h,idx_miss (nos_itoa _),if_pos h]
 · rw [ratS_frac h,idx_hit (nos_itoa _),if_neg h]
theorem ext_left (q:Rat) (h:q.den≠1):(ratB q).extract 0 (Lib.itoa q.num).length=itoaB q.num:=by
 refine dat_inj ?_
 rw [← Lib.toList_data,Lib.extract_toList]
 show ((ratS q).drop 0).take ((Lib.itoa q.num).length - 0)=_
 rw [ratS_frac h]
 simp
 rfl
theorem ext_right (q:Rat) (h:q.den≠1):(ratB q).extract ((Lib.itoa q.num).length+1) (ratB q).size=itoaB q.den:=by
 refine dat_inj ?_
 rw [Lib.extract_to_end]
 show (ratS q).drop ((Lib.itoa q.num).length+1)=Lib.itoa q.den
 rw [ratS_frac h,List.drop_append]
 simp
theorem refParts_int (s:ByteArray) (hc:∀ w,Calls Tryz.prog 81 #[.string s,.int .u8 47] w (Ret w (.int .i64 (-1)))) (w:World) (R:EnvR w) :
   Calls Tryz.prog 79 #[.string s] w (Ret w (.tuple #[.string s,.string ⟨#[49]⟩])):=by
 have c1:=fun (w:World) (R:EnvR w)=>hc w
 have C1:=Lib.hid c1
 clear c1 hc
 have hb:=Below.refl w.heap.size w
 go_enter Tryz.func79,Tryz.ntmps79
 go_wp2_with (go_at_call 81;with_reducible refine (chRA hb R C1).mono ?_;clear hb;rintro e w1 ⟨rfl,hb⟩)
 go_ret2
 exact ⟨rfl,hb⟩
theorem refParts_frac (s a b:ByteArray) (L:Nat) (hL:L < s.size) (hs:s.size≤1000000) (h1:s.extract 0 L=a) (h2:s.extract (L+1) s.size=b) (hc:∀ w,Calls Tryz.prog 81 #[.string s,.int .u8 47] w (Ret w (.int .i64 (L:Int)))) (w:World) (R:EnvR w) :
   Calls Tryz.prog 79 #[.string s] w (Ret w (.tuple #[.string a,.string b])):=by
 have c1:=fun (w:World) (R:EnvR w)=>hc w
 have C1:=Lib.hid c1
 clear c1 hc
 have H1:=Lib.hid h1
 have H2:=Lib.hid h2
 clear h1 h2
 have hb:=Below.refl w.heap.size w
 go_enter Tryz.func79,Tryz.ntmps79
 go_wp2_with (go_at_call 81;with_reducible refine (chRA hb R C1).mono ?_;clear hb;rintro e w1 ⟨rfl,hb⟩)
 go_quiet (fail)
 go_wp2
 go_ret2
 exact ⟨retSS H1.out H2.out,Below.drews hb _⟩
theorem refParts_any (q:Rat) (w:World) (R:EnvR w) (hq:RL q 100000) :
   Calls Tryz.prog 79 #[.string (ratB q)] w (Ret w (.tuple #[.string (itoaB q.num),.string (itoaB q.den)])):=by
 have hc:=fun w=>idx_ratB q w
 by_cases h:q.den=1
 · simp only [if_pos h] at hc
   have:=refParts_int (ratB q) hc w R
   rw [ratB_int h] at this ⊢
   rw [h]
   have e:itoaB ((1:Nat):Int)=⟨#[49]⟩:=itoa_one
   rw [e]
   exact this
 · simp only [if_neg h] at hc
   have hs:=size_of_RL hq
   refine refParts_frac (ratB q) _ _ _ ?_ (by omega) (ext_left q h) (ext_right q h) hc w R
   rw [ratB_size,ratS_frac h,List.length_append,List.length_cons];omega
theorem lowest_more (n d:Int) (x y:Int) (A B G:Nat) (r:ByteArray) (hG0:0 < G) (hA:A < 9223372036854775808) (hB:B < 9223372036854775808) (hg:Nat.gcd A B=G) (hx0 : -9223372036854775808 < x) (hx1:x < 9223372036854775808) (hy0:0 < y) (hy1:y < 9223372036854775808) (h1:y=1→itoaB x=r) (h2:y≠1→itoaB x ++ ⟨#[47]⟩ ++ itoaB y=r) (hn0 : -9223372036854775808 < n) (hn1:n < 9223372036854775808) (_hd0:0 < d) (_hd1:d < 9223372036854775808) (hdn:d≠1) (hNA:max n (-n)=(A:Int)) (hDB:d=(B:Int)) (hx:n.tdiv (G:Int)=x) (hy:d.tdiv (G:Int)=y) (w:World) (R:EnvR w) :
   Calls Tryz.prog 109 #[.int .i64 n,.int .i64 d] w (Ret w (.string r)):=by
 have HX:=Lib.hid hx
 have HY:=Lib.hid hy
 have HG:=Lib.hid hg
 have HA:=Lib.hid hA
 have HB:=Lib.hid hB
 have H1:=Lib.hid h1
 have H2:=Lib.hid h2
 have CX:=Lib.hid (fun (w:World) (R:EnvR w)=>itoa_call x (by omega) (by omega) w R.env)
 have CY:=Lib.hid (fun (w:World) (R:EnvR w)=>itoa_call y (by omega) (by omega) w R.env)
 have zx:(itoaB x).size≤100001:=itoaB_size x (Nat.le_trans (dlen_int x (by omega) (by omega)) (by decide))
 have zy:(itoaB y).size≤100001:=itoaB_size y (Nat.le_trans (dlen_int y (by omega) (by omega)) (by decide))
 obtain ⟨sx,esx⟩:∃ v,itoaB x=v:=⟨_,rfl⟩
 obtain ⟨sy,esy⟩:∃ v,itoaB y=v:=⟨_,rfl⟩
 simp only [esx,esy] at CX CY H1 H2 zx zy
 clear hx hy hg h1 h2 esx esy hA hB
 have HDB:=Lib.hid hDB
 clear hDB
 have hb:=Below.refl w.heap.size w
 have hdi:(d == 1)=false:=by rw [beq_eq_false_iff_ne];exact hdn
 go_enter Tryz.func109,Tryz.ntmps109
 go_wp2
 go_loopw [5,6] (fun a b wr=>∃ p q:Nat,a = .int .i64 p∧b = .int .i64 q∧p < 9223372036854775808∧q < 9223372036854775808∧Nat.gcd p q=G∧Below w.heap.size w wr) (fun _ b _=>(intOf b).toNat)
 case atStart=>exact ⟨A,B,rfl,by rw [HDB.out],HA.out,HB.out,HG.out,hb⟩
 case round =>
   obtain ⟨p,q,rfl,rfl,hp,hq,hg,hb⟩:=hrel
   have HGG:=Lib.hid hg
   clear hg
   by_cases h0:q=0
   · subst h0
     have e:p=G:=by rw [← HGG.out];simp
     subst e
     have hp0:¬ (p=0):=by omega
     have hwx:IntKind.i64.wrap x=x:=IntWalk.i64_in _ (by omega)
     have hwy:IntKind.i64.wrap y=y:=IntWalk.i64_in _ (by omega)
     have hx:=HX.out
     have hy:=HY.out
     have hb2:=Below.drews hb
     by_cases h1:y=1
     · have h1i:((y:Int) == 1)=true:=by rw [beq_iff_eq];exact h1
       go_wp2
       go_quiet (fail)
       go_wp2_with (go_at_call 158;(with_reducible refine (chain2 (hb2 _) (CX.out _ (R.below (hb2 _)))).mono ?_);rintro e w3 ⟨rfl,hk,hb3⟩)
       go_ret
       exact ⟨retS (H1.out h1),hb3⟩
     · have h1i:((y:Int) == 1)=false:=by rw [beq_eq_false_iff_ne];exact h1
       go_wp2
       go_quiet (fail)
       go_wp2_with (go_at_call 158;first | ((with_reducible refine (chain2 (hb2 _) (CX.out _ (R.below (hb2 _)))).mono ?_);clear hb2;rintro e w3 ⟨rfl,hk,hb3⟩;clear hk) | ((with_reducible refine (chain2 hb3 (CY.out _ (R.below hb3))).mono ?_);clear hb3;rintro e w4 ⟨rfl,hk,hb3⟩;clear hk))
       go_ret
       exact ⟨retS (H2.out h1),hb3⟩
   · have hne:((q:Int) == 0)=false:=by simpa using h0
     have hpos:(0:Int) < (q:Int):=by omega
     go_wp2
     go_quiet (fail)
     go_wp2
     go_roundw
     case rel=>exact ⟨q,p % q,rfl,by go_num,hq,by have:=Nat.mod_lt p (Nat.pos_of_ne_zero h0);omega,by rw [← HGG.out,Nat.gcd_comm p q,Nat.gcd_rec q p,Nat.gcd_comm];done,Below.drews hb _⟩
     case measure=>simp [intOf];have:=Int.emod_lt_of_pos (p:Int) hpos;omega
theorem lowest_one (n:Int) (h0 : -9223372036854775808≤n) (h1:n≤9223372036854775807) (w:World) (R:EnvR w) :
   Calls Tryz.prog 109 #[.int .i64 n,.int .i64 1] w (Ret w (.string (itoaB n))):=by
 have c1:=fun (w:World) (R:EnvR w)=>itoa_call n h0 h1 w R.env
 obtain ⟨a,ea⟩:∃ v,itoaB n=v:=⟨_,rfl⟩
 try simp only [ea] at c1 ⊢
 have C1:=Lib.hid c1
 clear c1 ea
 have hb:=Below.refl w.heap.size w
 go_enter Tryz.func109,Tryz.ntmps109
 go_wp2_with (go_at_call 158;with_reducible refine (chRA hb R C1).mono ?_;clear hb;rintro e w1 ⟨rfl,hb⟩)
 go_ret
 exact ⟨rfl,hb⟩
theorem refLowest_any (n d:Int) (hn0 : -9223372036854775808 < n) (hn1:n < 9223372036854775808) (hd0:0 < d) (hd1:d < 9223372036854775808) (w:World) (R:EnvR w) :
   Calls Tryz.prog 109 #[.int .i64 n,.int .i64 d] w (Ret w (.string (ratB (Rat.divInt n d)))):=by
 obtain ⟨G,hG⟩:∃ G,Nat.gcd n.natAbs d.natAbs=G:=⟨_,rfl⟩
 obtain ⟨g0,v1,v2,m1,m2⟩:=gcd_parts n d hd0 G hG
 obtain ⟨r1,r2⟩:=ratB_cases _ _ _ m1 m2
 by_cases h:d=1
 · subst h
   have e1:G=1:=by rw [← hG];simp
   subst e1
   have:=r1 (by decide)
   rw [← this,show n / ((1:Nat):Int)=n from Int.ediv_one n]
   exact lowest_one n (by omega) (by omega) w R
 · have b1:=quo_b n G hn0 hn1
   have b2:=quo_b d G (by omega) hd1
   have hp:=(Rat.divInt n d).den_pos
   exact lowest_more n d _ _ n.natAbs d.natAbs G _ g0 (by omega) (by omega) hG b1.1 b1.2 (by omega) b2.2 r1 r2 hn0 hn1 hd0 hd1 h (by omega) (by omega) (quo_x n G _ v1 rfl) (quo_x d G _ v2 rfl) w R
end Go.Proofs.YtpennccflalobaaGreatDoor.Kl
