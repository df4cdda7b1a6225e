import Derived.Test.YtpennccflalobaaGreatDoorKlVLinesRefDiv
import Derived.Test.YtpennccflalobaaGreatDoorKlBRatZ
namespace Go.Proofs.YtpennccflalobaaGreatDoor.Kl
open Go
set_option maxRecDepth 100000
set_option maxHeartbeats 8000000
theorem idx_miss : ∀ {l:List UInt8},(47:UInt8) ∉ l→Lib.indexByte l 47 = -1
 | [],_=>rfl
 | b :: l,h=>by
   have hb:(b == 47)=false:=by rw [beq_eq_false_iff_ne];exact fun e=>h (by simp [e])
   have ih:=idx_miss (l:=l) (fun hm=>h (List.mem_cons_of_mem _ hm))
   unfold Lib.indexByte
   rw [hb,ih];rfl
theorem idx_hit : ∀ {a b:List UInt8},(47:UInt8) ∉ a→Lib.indexByte (a ++ 47 :: b) 47=a.length
 | [],_,_=>rfl
 | c :: a,b,h=>by
   have hb:(c == 47)=false:=by rw [beq_eq_false_iff_ne];exact fun e=>h (by simp [e])
   have ih:=idx_hit (a:=a) (b:=b) (fun hm=>h (List.mem_cons_of_mem _ hm))
   rw [List.cons_append]
   unfold Lib.indexByte
   rw [hb,ih,if_neg (by decide),if_neg (by rw [beq_iff_eq];omega)]
   simp
theorem mk_sign (n d:Int) (hd:0 < d):(Rat.divInt n d).num.sign=n.sign:=by
 have h1:=Rat.num_divInt n d
 rw [Int.sign_eq_one_of_pos hd,Int.one_mul] at h1
 have hg:(0:Int) < ((d.gcd n:Nat):Int):=by
   have:=Int.gcd_pos_of_ne_zero_left (a:=d) n (by omega);omega
 have hdv:((d.gcd n:Nat):Int) ∣ n:=Int.gcd_dvd_right ..
 obtain ⟨k,hk⟩:=hdv
 have e:(Rat.divInt n d).num=k:=by
   rw [h1]
   conv=>lhs;lhs;rw [hk]
   exact Int.mul_ediv_cancel_left _ (by omega)
 rw [e,hk,Int.sign_mul,Int.sign_eq_one_of_pos hg,Int.one_mul]
theorem head_itoa (n:Int) (m:List UInt8):(Lib.itoa n ++ m).head? = (Lib.itoa n).head?:=by
 refine head_append_ne ?_
 unfold Lib.itoa;split
 · simp
 · exact decDigits_ne _
theorem neg_ratS (q:Rat):neg (ratS q)=decide (q.num < 0):=by
 rw [← neg_itoa]
 unfold ratS neg
 split
 · rfl
 · rw [head_itoa]
theorem ratS_minus {q:Rat} (h:0 < q.num):45 :: ratS q=ratS (-q):=by
 have e:Lib.itoa (-q.num)=45 :: Lib.itoa q.num:=by
   unfold Lib.itoa;rw [if_pos (by omega),if_neg (by omega),show (-q.num).natAbs=q.num.toNat by omega]
 unfold ratS
 show _=(if q.den=1 then Lib.itoa (-q.num) else Lib.itoa (-q.num) ++ 47 :: Lib.itoa q.den)
 rw [e];split <;> rfl
theorem ratB_plus {q:Rat} (h:0 < q.num):(⟨#[45]⟩:ByteArray) ++ ratB q=ratB (-q):=by
 refine dat_inj ?_
 show _=ratS (-q)
 rw [← ratS_minus h,ByteArray.data_append,Array.toList_append];rfl
theorem ratB_tail {q:Rat} (h:q.num < 0):(ratB q).extract 1 (ratB q).size=ratB (-q):=by
 refine dat_inj ?_
 rw [Lib.extract_to_end]
 show (ratS q).drop 1=ratS (-q)
 have e:=ratS_minus (q:=-q) (by show 0 < -q.num;omega)
 rw [Rat.neg_neg] at e
 rw [← e];rfl
theorem ratB_pos (q:Rat):0 < (ratB q).size:=by
 have:=ratS_len q;have:=dlen_pos q.num;rw [ratB_size];omega
end Go.Proofs.YtpennccflalobaaGreatDoor.Kl
namespace Go.Proofs.YtpennccflalobaaGreatDoor.Kl
open Go Go.RowKit
set_option maxRecDepth 100000
set_option maxHeartbeats 8000000
theorem rsign_any (q:Rat) (hq:RL q 100000) (w:World) (R:EnvR w) :
   Calls Tryz.prog 96 #[.string (ratB q)] w (Ret w (.int .i64 q.num.sign)):=by
 have c1:=fun (w:World) (R:EnvR w)=>rparts_any q w R hq
 have c2:CR 152 #[.string (itoaB q.num)] (.int .i64 q.num.sign):=fun w R=>sign_any _ w
 obtain ⟨z,ez⟩:∃ v,q.num.sign=v:=⟨_,rfl⟩
 try simp only [ez] at c1 c2 ⊢
 obtain ⟨a,ea⟩:∃ v,itoaB q.num=v:=⟨_,rfl⟩
 try simp only [ea] at c1 c2 ⊢
 obtain ⟨b,eb⟩:∃ v,itoaB q.den=v:=⟨_,rfl⟩
 try simp only [eb] at c1 c2 ⊢
 obtain ⟨s,es⟩:∃ v,ratB q=v:=⟨_,rfl⟩
 try simp only [es] at c1 c2 ⊢
 have C1:=Lib.hid c1
 have C2:=Lib.hid c2
 clear c1 c2 ez ea eb es hq
 have hb:=Below.refl w.heap.size w
 go_enter Tryz.func96,Tryz.ntmps96
 go_wp2_with ((first | (go_at_call 87;with_reducible refine (chRA hb R C1).mono ?_) | (go_at_call 152;with_reducible refine (chRA hb R C2).mono ?_));clear hb;rintro e w1 ⟨rfl,hb⟩)
 go_ret
 exact ⟨rfl,hb⟩
theorem idx_ratB (q:Rat) (w:World) :
   Calls Tryz.prog 81 #[.string (ratB q),.int .u8 47] w (Ret w (.int .i64 (if q.den=1 then -1 else ((Lib.itoa q.num).length:Int)))):=by
 refine (Tryz.strings_IndexByte (ratB q) 47 w).mono ?_
 rintro e w' ⟨he,rfl⟩
 refine ⟨?_,Below.refl _ _⟩
 rw [he]
 refine retI ?_
 show Lib.indexByte (ratS q) 47=_
 by_cases h:q.den=1
 · rw [ratS_int h,idx_miss (nos_itoa _),if_pos h]
 · rw [ratS_frac h,idx_hit (nos_itoa _),if_neg h]
theorem ext_left (q:Rat) (h:q.den≠1):(ratB q).extract 0 (Lib.itoa q.num).length=itoaB q.num:=by
 refine dat_inj ?_
 rw [← Lib.toList_data,Lib.extract_toList]
 show ((ratS q).drop 0).take ((Lib.itoa q.num).length - 0)=_
 rw [ratS_frac h]
 simp
 rfl
theorem ext_right (q:Rat) (h:q.den≠1):(ratB q).extract ((Lib.itoa q.num).length+1) (ratB q).size=itoaB q.den:=by
 refine dat_inj ?_
 rw [Lib.extract_to_end]
 show (ratS q).drop ((Lib.itoa q.num).length+1)=Lib.itoa q.den
 rw [ratS_frac h,List.drop_append]
 simp
theorem refParts_int (s:ByteArray) (hc:∀ w,Calls Tryz.prog 81 #[.string s,.int .u8 47] w (Ret w (.int .i64 (-1)))) (w:World) (R:EnvR w) :
   Calls Tryz.prog 79 #[.string s] w (Ret w (.tuple #[.string s,.string ⟨#[49]⟩])):=by
 have c1:=fun (w:World) (R:EnvR w)=>hc w
 have C1:=Lib.hid c1
 clear c1 hc
 have hb:=Below.refl w.heap.size w
 go_enter Tryz.func79,Tryz.ntmps79
 go_wp2_with (go_at_call 81;with_reducible refine (chRA hb R C1).mono ?_;clear hb;rintro e w1 ⟨rfl,hb⟩)
 go_ret2
 exact ⟨rfl,hb⟩
theorem refParts_frac (s a b:ByteArray) (L:Nat) (hL:L < s.size) (hs:s.size≤1000000) (h1:s.extract 0 L=a) (h2:s.extract (L+1) s.size=b) (hc:∀ w,Calls Tryz.prog 81 #[.string s,.int .u8 47] w (Ret w (.int .i64 (L:Int)))) (w:World) (R:EnvR w) :
   Calls Tryz.prog 79 #[.string s] w (Ret w (.tuple #[.string a,.string b])):=by
 have c1:=fun (w:World) (R:EnvR w)=>hc w
 have C1:=Lib.hid c1
 clear c1 hc
 have H1:=Lib.hid h1
 have H2:=Lib.hid h2
 clear h1 h2
 have hb:=Below.refl w.heap.size w
 go_enter Tryz.func79,Tryz.ntmps79
 go_wp2_with (go_at_call 81;with_reducible refine (chRA hb R C1).mono ?_;clear hb;rintro e w1 ⟨rfl,hb⟩)
 go_quiet (fail)
 go_wp2
 go_ret2
 exact ⟨retSS H1.out H2.out,Below.drews hb _⟩
theorem refParts_any (q:Rat) (w:World) (R:EnvR w) (hq:RL q 100000) :
   Calls Tryz.prog 79 #[.string (ratB q)] w (Ret w (.tuple #[.string (itoaB q.num),.string (itoaB q.den)])):=by
 have hc:=fun w=>idx_ratB q w
 by_cases h:q.den=1
 · simp only [if_pos h] at hc
   have:=refParts_int (ratB q) hc w R
   rw [ratB_int h] at this ⊢
   rw [h]
   have e:itoaB ((1:Nat):Int)=⟨#[49]⟩:=itoa_one
   rw [e]
   exact this
 · simp only [if_neg h] at hc
   have hs:=size_of_RL hq
   refine refParts_frac (ratB q) _ _ _ ?_ (by omega) (ext_left q h) (ext_right q h) hc w R
   rw [ratB_size,ratS_frac h,List.length_append,List.length_cons];omega
theorem lowest_more (n d:Int) (x y:Int) (A B G:Nat) (r:ByteArray) (hG0:0 < G) (hA:A < 9223372036854775808) (hB:B < 9223372036854775808) (hg:Nat.gcd A B=G) (hx0 : -9223372036854775808 < x) (hx1:x < 9223372036854775808) (hy0:0 < y) (hy1:y < 9223372036854775808) (h1:y=1→itoaB x=r) (h2:y≠1→itoaB x ++ ⟨#[47]⟩ ++ itoaB y=r) (hn0 : -9223372036854775808 < n) (hn1:n < 9223372036854775808) (_hd0:0 < d) (_hd1:d < 9223372036854775808) (hdn:d≠1) (hNA:max n (-n)=(A:Int)) (hDB:d=(B:Int)) (hx:n.tdiv (G:Int)=x) (hy:d.tdiv (G:Int)=y) (w:World) (R:EnvR w) :
   Calls Tryz.prog 109 #[.int .i64 n,.int .i64 d] w (Ret w (.string r)):=by
 have HX:=Lib.hid hx
 have HY:=Lib.hid hy
 have HG:=Lib.hid hg
 have HA:=Lib.hid hA
 have HB:=Lib.hid hB
 have H1:=Lib.hid h1
 have H2:=Lib.hid h2
 have CX:=Lib.hid (fun (w:World) (R:EnvR w)=>itoa_call x (by omega) (by omega) w R.env)
 have CY:=Lib.hid (fun (w:World) (R:EnvR w)=>itoa_call y (by omega) (by omega) w R.env)
 have zx:(itoaB x).size≤100001:=itoaB_size x (Nat.le_trans (dlen_int x (by omega) (by omega)) (by decide))
 have zy:(itoaB y).size≤100001:=itoaB_size y (Nat.le_trans (dlen_int y (by omega) (by omega)) (by decide))
 obtain ⟨sx,esx⟩:∃ v,itoaB x=v:=⟨_,rfl⟩
 obtain ⟨sy,esy⟩:∃ v,itoaB y=v:=⟨_,rfl⟩
 simp only [esx,esy] at CX CY H1 H2 zx zy
 clear hx hy hg h1 h2 esx esy hA hB
 have HDB:=Lib.hid hDB
 clear hDB
 have hb:=Below.refl w.heap.size w
 have hdi:(d == 1)=false:=by rw [beq_eq_false_iff_ne];exact hdn
 go_enter Tryz.func109,Tryz.ntmps109
 go_wp2
 go_loopw [5,6] (fun a b wr=>∃ p q:Nat,a = .int .i64 p∧b = .int .i64 q∧p < 9223372036854775808∧q < 9223372036854775808∧Nat.gcd p q=G∧Below w.heap.size w wr) (fun _ b _=>(intOf b).toNat)
 case atStart=>exact ⟨A,B,rfl,by rw [HDB.out],HA.out,HB.out,HG.out,hb⟩
 case round =>
   obtain ⟨p,q,rfl,rfl,hp,hq,hg,hb⟩:=hrel
   have HGG:=Lib.hid hg
   clear hg
   by_cases h0:q=0
   · subst h0
     have e:p=G:=by rw [← HGG.out];simp
     subst e
     have hp0:¬ (p=0):=by omega
     have hwx:IntKind.i64.wrap x=x:=IntWalk.i64_in _ (by omega)
     have hwy:IntKind.i64.wrap y=y:=IntWalk.i64_in _ (by omega)
     have hx:=HX.out
     have hy:=HY.out
     have hb2:=Below.drews hb
     by_cases h1:y=1
     · have h1i:((y:Int) == 1)=true:=by rw [beq_iff_eq];exact h1
       go_wp2
       go_quiet (fail)
       go_wp2_with (go_at_call 158;(with_reducible refine (chain2 (hb2 _) (CX.out _ (R.below (hb2 _)))).mono ?_);rintro e w3 ⟨rfl,hk,hb3⟩)
       go_ret
       exact ⟨retS (H1.out h1),hb3⟩
     · have h1i:((y:Int) == 1)=false:=by rw [beq_eq_false_iff_ne];exact h1
       go_wp2
       go_quiet (fail)
       go_wp2_with (go_at_call 158;first | ((with_reducible refine (chain2 (hb2 _) (CX.out _ (R.below (hb2 _)))).mono ?_);clear hb2;rintro e w3 ⟨rfl,hk,hb3⟩;clear hk) | ((with_reducible refine (chain2 hb3 (CY.out _ (R.below hb3))).mono ?_);clear hb3;rintro e w4 ⟨rfl,hk,hb3⟩;clear hk))
       go_ret
       exact ⟨retS (H2.out h1),hb3⟩
   · have hne:((q:Int) == 0)=false:=by simpa using h0
     have hpos:(0:Int) < (q:Int):=by omega
     go_wp2
     go_quiet (fail)
     go_wp2
     go_roundw
     case rel=>exact ⟨q,p % q,rfl,by go_num,hq,by have:=Nat.mod_lt p (Nat.pos_of_ne_zero h0);omega,by rw [← HGG.out,Nat.gcd_comm p q,Nat.gcd_rec q p,Nat.gcd_comm];done,Below.drews hb _⟩
     case measure=>simp [intOf];have:=Int.emod_lt_of_pos (p:Int) hpos;omega
theorem lowest_one (n:Int) (h0 : -9223372036854775808≤n) (h1:n≤9223372036854775807) (w:World) (R:EnvR w) :
   Calls Tryz.prog 109 #[.int .i64 n,.int .i64 1] w (Ret w (.string (itoaB n))):=by
 have c1:=fun (w:World) (R:EnvR w)=>itoa_call n h0 h1 w R.env
 obtain ⟨a,ea⟩:∃ v,itoaB n=v:=⟨_,rfl⟩
 try simp only [ea] at c1 ⊢
 have C1:=Lib.hid c1
 clear c1 ea
 have hb:=Below.refl w.heap.size w
 go_enter Tryz.func109,Tryz.ntmps109
 go_wp2_with (go_at_call 158;with_reducible refine (chRA hb R C1).mono ?_;clear hb;rintro e w1 ⟨rfl,hb⟩)
 go_ret
 exact ⟨rfl,hb⟩
theorem refLowest_any (n d:Int) (hn0 : -9223372036854775808 < n) (hn1:n < 9223372036854775808) (hd0:0 < d) (hd1:d < 9223372036854775808) (w:World) (R:EnvR w) :
   Calls Tryz.prog 109 #[.int .i64 n,.int .i64 d] w (Ret w (.string (ratB (Rat.divInt n d)))):=by
 obtain ⟨G,hG⟩:∃ G,Nat.gcd n.natAbs d.natAbs=G:=⟨_,rfl⟩
 obtain ⟨g0,v1,v2,m1,m2⟩:=gcd_parts n d hd0 G hG
 obtain ⟨r1,r2⟩:=ratB_cases _ _ _ m1 m2
 by_cases h:d=1
 · subst h
   have e1:G=1:=by rw [← hG];simp
   subst e1
   have:=r1 (by decide)
   rw [← this,show n / ((1:Nat):Int)=n from Int.ediv_one n]
   exact lowest_one n (by omega) (by omega) w R
 · have b1:=quo_b n G hn0 hn1
   have b2:=quo_b d G (by omega) hd1
   have hp:=(Rat.divInt n d).den_pos
   exact lowest_more n d _ _ n.natAbs d.natAbs G _ g0 (by omega) (by omega) hG b1.1 b1.2 (by omega) b2.2 r1 r2 hn0 hn1 hd0 hd1 h (by omega) (by omega) (quo_x n G _ v1 rfl) (quo_x d G _ v2 rfl) w R
theorem refBrief_long (s:ByteArray) (h:9 < s.size) (w:World) (_R:EnvR w) :
   Calls Tryz.prog 108 #[.string s] w (Ret w (.tuple #[.int .i64 0,.int .i64 0,.bool false])):=by
 have h':(9:Int) < (s.size:Int):=by omega
 have hb:=Below.refl w.heap.size w
 go_enter Tryz.func108,Tryz.ntmps108
 go_wp2
 go_ret3
 exact ⟨rfl,hb⟩
theorem brief_step (s:ByteArray) (off:Nat) (D rest:List UInt8) (hs:s.data.toList.drop off=D ++ rest) (hD:D.all isDig=true) (j:Nat) (h0:off≤j) (h1:j < off+D.length) (h:j < s.size) :
   isDig s[j]=true∧val (D.take (j+1 - off))=val (D.take (j - off))*10+(s[j].toNat - 48):=by
 have e1:s.data.toList[j]? = some s[j]:=by
   rw [List.getElem?_eq_getElem (by rw [← size_len];exact h)];rfl
 have e2:D[j - off]? = some s[j]:=by
   have:(s.data.toList.drop off)[j - off]? = s.data.toList[j]?:=by rw [List.getElem?_drop,show off+(j - off)=j by omega]
   rw [hs,List.getElem?_append_left (by omega),e1] at this
   exact this
 refine ⟨List.all_eq_true.1 hD _ (List.mem_of_getElem? e2),?_⟩
 rw [show j+1 - off=(j - off)+1 by omega,List.take_add_one,e2]
 show val (D.take (j - off) ++ [s[j]])=_
 unfold val
 rw [valFrom_append,valFrom_cons,valFrom_nil]
theorem val_take_lt (D:List UInt8) (k N:Nat) (h:val D < N):val (D.take k) < N:=Nat.lt_of_le_of_lt (val_take_le D k) h
theorem byte_at_slash (s:ByteArray) (off:Nat) (D E:List UInt8) (hs:s.data.toList.drop off=D ++ 47 :: E) (h:off+D.length < s.size):((s[off+D.length].toNat:Int) == 47)=true:=by
 refine byte_eq (d:=47) rfl ?_
 have e1:s.data.toList[off+D.length]? = some s[off+D.length]:=by
   rw [List.getElem?_eq_getElem (by rw [← size_len];exact h)];rfl
 have e2:(s.data.toList.drop off)[D.length]? = s.data.toList[off+D.length]?:=by rw [List.getElem?_drop]
 rw [hs,e1,List.getElem?_append_right (Nat.le_refl _),Nat.sub_self] at e2
 exact (Option.some.inj e2).symm
theorem brief_pi (s:ByteArray) (D:List UInt8) (N:Nat) (hD:D.all isDig=true) (hN:val D=N) (hNb:N < 1000000000) (hsz:s.size≤9) (h0:0 < s.size) (h45:((s[0].toNat:Int) == 45)=false) (hs:s.data.toList.drop 0=D ++ []) (hl:s.size=D.length) (w:World) (_R:EnvR w) :
   Calls Tryz.prog 108 #[.string s] w (Ret w (.tuple #[.int .i64 (N:Int),.int .i64 1,.bool true])):=by
 have HS:=Lib.hid hs
 have HD:=Lib.hid hD
 have HN:=Lib.hid hN
 clear hs hD hN
 have h0':(0:Int) < (s.size:Int):=by omega
 have hsz':(s.size:Int)≤9:=by omega
 obtain ⟨L,hL⟩:∃ L,D.length=L:=⟨_,rfl⟩
 have HL:=Lib.hid hL
 rw [hL] at hl
 clear hL
 go_enter Tryz.func108,Tryz.ntmps108
 go_wp2
 go_loop [2,5] (fun x i=>∃ j V:Nat,0≤j∧j≤L∧i = .int .i64 j∧x = .int .i64 (V:Int)∧V=val (D.take (j - 0))∧V < 1000000000) (fun _ i=>20 - (intOf i).toNat)
 case atStart=>exact ⟨0,0,by omega,by omega,rfl,rfl,by simp [val,valFrom],by omega⟩
 case round =>
   obtain ⟨j,V,hj0,hj1,rfl,rfl,hV,hVb⟩:=hrel
   have HV:=Lib.hid hV
   clear hV
   by_cases hlt:j < L
   · have hjs:j < s.size:=by omega
     have hst:=brief_step s 0 D _ HS.out HD.out j hj0 (by rw [HL.out];omega) hjs
     have hd1:=isDig_iff.1 hst.1
     have hne:s[j]≠47:=dig_ne47 hst.1
     have h47a:((s[j].toNat:Int) == 47)=false:=byte_ne (d:=47) rfl hne
     have h47b:((s[j].toNat:Int) != 47)=true:=by rw [bne,h47a];rfl
     have hbd:val (D.take (j+1 - 0)) < 1000000000:=val_take_lt D _ _ (by rw [HN.out];exact hNb)
     have hnew:V*10+(s[j].toNat - 48)=val (D.take (j+1 - 0)):=by rw [hst.2,← HV.out]
     rw [← hnew] at hbd
     have HW:=Lib.hid hnew
     clear hst hne hnew
     go_wp2
     go_round
     case rel=>exact ⟨j+1,V*10+(s[j].toNat - 48),by omega,by omega,by go_num,by go_num,HW.out,hbd⟩
     case measure=>simp [intOf];omega
   · have ej:L=j:=by omega
     subst ej
     have eV:V=N:=by rw [HV.out,show L - 0=L by omega,← HL.out,List.take_length];exact HN.out
     subst eV
     have hge:¬ (((L:Nat):Int) < (s.size:Int)):=by omega
     go_wp2
     go_ret3
     exact ⟨retIIB (by omega) rfl rfl,Below.refl _ _⟩
theorem brief_pf (s:ByteArray) (D E:List UInt8) (N M:Nat) (hD:D.all isDig=true) (hN:val D=N) (hNb:N < 1000000000) (hsz:s.size≤9) (h0:0 < s.size) (h45:((s[0].toNat:Int) == 45)=false) (hE:E.all isDig=true) (hM:val E=M) (hMb:M < 1000000000) (hs:s.data.toList.drop 0=D ++ 47 :: E) (hl:s.size=D.length+1+E.length) (hs2:s.data.toList.drop (D.length+1)=E ++ []) (w:World) (_R:EnvR w) :
   Calls Tryz.prog 108 #[.string s] w (Ret w (.tuple #[.int .i64 (N:Int),.int .i64 (M:Int),.bool true])):=by
 have HS:=Lib.hid hs
 have HD:=Lib.hid hD
 have HN:=Lib.hid hN
 have HE:=Lib.hid hE
 have HM:=Lib.hid hM
 have HS2:=Lib.hid hs2
 have h47:∀ (h:D.length < s.size),((s[D.length].toNat:Int) == 47)=true:=fun h=>by have:=byte_at_slash s 0 D E hs (by omega);simpa only [Nat.zero_add] using this
 have H47:=Lib.hid h47
 clear hE hM hs2 h47
 clear hs hD hN
 have h0':(0:Int) < (s.size:Int):=by omega
 have hsz':(s.size:Int)≤9:=by omega
 obtain ⟨L,hL⟩:∃ L,D.length=L:=⟨_,rfl⟩
 have HL:=Lib.hid hL
 rw [hL] at hl
 rw [hL] at H47 HS2
 obtain ⟨K,hK⟩:∃ K,E.length=K:=⟨_,rfl⟩
 have HK:=Lib.hid hK
 rw [hK] at hl
 clear hK
 clear hL
 go_enter Tryz.func108,Tryz.ntmps108
 go_wp2
 go_loop [2,5] (fun x i=>∃ j V:Nat,0≤j∧j≤L∧i = .int .i64 j∧x = .int .i64 (V:Int)∧V=val (D.take (j - 0))∧V < 1000000000) (fun _ i=>20 - (intOf i).toNat)
 case atStart=>exact ⟨0,0,by omega,by omega,rfl,rfl,by simp [val,valFrom],by omega⟩
 case round =>
   obtain ⟨j,V,hj0,hj1,rfl,rfl,hV,hVb⟩:=hrel
   have HV:=Lib.hid hV
   clear hV
   by_cases hlt:j < L
   · have hjs:j < s.size:=by omega
     have hst:=brief_step s 0 D _ HS.out HD.out j hj0 (by rw [HL.out];omega) hjs
     have hd1:=isDig_iff.1 hst.1
     have hne:s[j]≠47:=dig_ne47 hst.1
     have h47a:((s[j].toNat:Int) == 47)=false:=byte_ne (d:=47) rfl hne
     have h47b:((s[j].toNat:Int) != 47)=true:=by rw [bne,h47a];rfl
     have hbd:val (D.take (j+1 - 0)) < 1000000000:=val_take_lt D _ _ (by rw [HN.out];exact hNb)
     have hnew:V*10+(s[j].toNat - 48)=val (D.take (j+1 - 0)):=by rw [hst.2,← HV.out]
     rw [← hnew] at hbd
     have HW:=Lib.hid hnew
     clear hst hne hnew
     go_wp2
     go_round
     case rel=>exact ⟨j+1,V*10+(s[j].toNat - 48),by omega,by omega,by go_num,by go_num,HW.out,hbd⟩
     case measure=>simp [intOf];omega
   · have ej:L=j:=by omega
     subst ej
     have eV:V=N:=by rw [HV.out,show L - 0=L by omega,← HL.out,List.take_length];exact HN.out
     subst eV
     have hlt2:L < s.size:=by omega
     have hlt3:(((L:Nat):Int) < (s.size:Int)):=by omega
     have h47a:=H47.out hlt2
     have h47b:((s[L].toNat:Int) != 47)=false:=by rw [bne,h47a];rfl
     go_wp2
     go_loop [3,5] (fun x i=>∃ j U:Nat,L+1≤j∧j≤L+1+K∧i = .int .i64 j∧x = .int .i64 (U:Int)∧U=val (E.take (j - (L+1)))∧U < 1000000000) (fun _ i=>20 - (intOf i).toNat)
     case atStart=>exact ⟨L+1,0,by omega,by omega,by go_num,rfl,by simp [val,valFrom],by omega⟩
     case round =>
       obtain ⟨j,U,hj0,hj1,rfl,rfl,hU,hUb⟩:=hrel
       have HU:=Lib.hid hU
       clear hU
       by_cases hlt:j < L+1+K
       · have hjs:j < s.size:=by omega
         have hst:=brief_step s (L+1) E _ HS2.out HE.out j hj0 (by rw [HK.out];omega) hjs
         have hd1:=isDig_iff.1 hst.1
         have hbd:val (E.take (j+1 - (L+1))) < 1000000000:=val_take_lt E _ _ (by rw [HM.out];exact hMb)
         have hnew:U*10+(s[j].toNat - 48)=val (E.take (j+1 - (L+1))):=by rw [hst.2,← HU.out]
         rw [← hnew] at hbd
         have HW:=Lib.hid hnew
         clear hst hnew
         go_wp2
         go_round
         case rel=>exact ⟨j+1,U*10+(s[j].toNat - 48),by omega,by omega,by go_num,by go_num,HW.out,hbd⟩
         case measure=>simp [intOf];omega
       · have ej:j=L+1+K:=by omega
         subst ej
         have eU:U=M:=by rw [HU.out,show L+1+K - (L+1)=K by omega,← HK.out,List.take_length];exact HM.out
         subst eU
         have hge:¬ (((L+1+K:Nat):Int) < (s.size:Int)):=by omega
         go_wp2
         go_ret3
         exact ⟨retIIB (by omega) rfl rfl,Below.refl _ _⟩
theorem brief_mi (s:ByteArray) (D:List UInt8) (N:Nat) (hD:D.all isDig=true) (hN:val D=N) (hNb:N < 1000000000) (hsz:s.size≤9) (h0:0 < s.size) (h45:((s[0].toNat:Int) == 45)=true) (hs:s.data.toList.drop 1=D ++ []) (hl:s.size=1+D.length) (w:World) (_R:EnvR w) :
   Calls Tryz.prog 108 #[.string s] w (Ret w (.tuple #[.int .i64 (-(N:Int)),.int .i64 1,.bool true])):=by
 have HS:=Lib.hid hs
 have HD:=Lib.hid hD
 have HN:=Lib.hid hN
 clear hs hD hN
 have h0':(0:Int) < (s.size:Int):=by omega
 have hsz':(s.size:Int)≤9:=by omega
 obtain ⟨L,hL⟩:∃ L,D.length=L:=⟨_,rfl⟩
 have HL:=Lib.hid hL
 rw [hL] at hl
 clear hL
 go_enter Tryz.func108,Tryz.ntmps108
 go_wp2
 go_loop [2,5] (fun x i=>∃ j V:Nat,1≤j∧j≤1+L∧i = .int .i64 j∧x = .int .i64 (V:Int)∧V=val (D.take (j - 1))∧V < 1000000000) (fun _ i=>20 - (intOf i).toNat)
 case atStart=>exact ⟨1,0,by omega,by omega,rfl,rfl,by simp [val,valFrom],by omega⟩
 case round =>
   obtain ⟨j,V,hj0,hj1,rfl,rfl,hV,hVb⟩:=hrel
   have HV:=Lib.hid hV
   clear hV
   by_cases hlt:j < 1+L
   · have hjs:j < s.size:=by omega
     have hst:=brief_step s 1 D _ HS.out HD.out j hj0 (by rw [HL.out];omega) hjs
     have hd1:=isDig_iff.1 hst.1
     have hne:s[j]≠47:=dig_ne47 hst.1
     have h47a:((s[j].toNat:Int) == 47)=false:=byte_ne (d:=47) rfl hne
     have h47b:((s[j].toNat:Int) != 47)=true:=by rw [bne,h47a];rfl
     have hbd:val (D.take (j+1 - 1)) < 1000000000:=val_take_lt D _ _ (by rw [HN.out];exact hNb)
     have hnew:V*10+(s[j].toNat - 48)=val (D.take (j+1 - 1)):=by rw [hst.2,← HV.out]
     rw [← hnew] at hbd
     have HW:=Lib.hid hnew
     clear hst hne hnew
     go_wp2
     go_round
     case rel=>exact ⟨j+1,V*10+(s[j].toNat - 48),by omega,by omega,by go_num,by go_num,HW.out,hbd⟩
     case measure=>simp [intOf];omega
   · have ej:j=1+L:=by omega
     subst ej
     have eV:V=N:=by rw [HV.out,show 1+L - 1=L by omega,← HL.out,List.take_length];exact HN.out
     subst eV
     have hge:¬ (((1+L:Nat):Int) < (s.size:Int)):=by omega
     go_wp2
     go_ret3
     exact ⟨retIIB (by omega) rfl rfl,Below.refl _ _⟩
theorem brief_mf (s:ByteArray) (D E:List UInt8) (N M:Nat) (hD:D.all isDig=true) (hN:val D=N) (hNb:N < 1000000000) (hsz:s.size≤9) (h0:0 < s.size) (h45:((s[0].toNat:Int) == 45)=true) (hE:E.all isDig=true) (hM:val E=M) (hMb:M < 1000000000) (hs:s.data.toList.drop 1=D ++ 47 :: E) (hl:s.size=1+D.length+1+E.length) (hs2:s.data.toList.drop (1+D.length+1)=E ++ []) (w:World) (_R:EnvR w) :
   Calls Tryz.prog 108 #[.string s] w (Ret w (.tuple #[.int .i64 (-(N:Int)),.int .i64 (M:Int),.bool true])):=by
 have HS:=Lib.hid hs
 have HD:=Lib.hid hD
 have HN:=Lib.hid hN
 have HE:=Lib.hid hE
 have HM:=Lib.hid hM
 have HS2:=Lib.hid hs2
 have h47:∀ (h:1+D.length < s.size),((s[1+D.length].toNat:Int) == 47)=true:=fun h=>byte_at_slash s 1 D E hs h
 have H47:=Lib.hid h47
 clear hE hM hs2 h47
 clear hs hD hN
 have h0':(0:Int) < (s.size:Int):=by omega
 have hsz':(s.size:Int)≤9:=by omega
 obtain ⟨L,hL⟩:∃ L,D.length=L:=⟨_,rfl⟩
 have HL:=Lib.hid hL
 rw [hL] at hl
 rw [hL] at H47 HS2
 obtain ⟨K,hK⟩:∃ K,E.length=K:=⟨_,rfl⟩
 have HK:=Lib.hid hK
 rw [hK] at hl
 clear hK
 clear hL
 go_enter Tryz.func108,Tryz.ntmps108
 go_wp2
 go_loop [2,5] (fun x i=>∃ j V:Nat,1≤j∧j≤1+L∧i = .int .i64 j∧x = .int .i64 (V:Int)∧V=val (D.take (j - 1))∧V < 1000000000) (fun _ i=>20 - (intOf i).toNat)
 case atStart=>exact ⟨1,0,by omega,by omega,rfl,rfl,by simp [val,valFrom],by omega⟩
 case round =>
   obtain ⟨j,V,hj0,hj1,rfl,rfl,hV,hVb⟩:=hrel
   have HV:=Lib.hid hV
   clear hV
   by_cases hlt:j < 1+L
   · have hjs:j < s.size:=by omega
     have hst:=brief_step s 1 D _ HS.out HD.out j hj0 (by rw [HL.out];omega) hjs
     have hd1:=isDig_iff.1 hst.1
     have hne:s[j]≠47:=dig_ne47 hst.1
     have h47a:((s[j].toNat:Int) == 47)=false:=byte_ne (d:=47) rfl hne
     have h47b:((s[j].toNat:Int) != 47)=true:=by rw [bne,h47a];rfl
     have hbd:val (D.take (j+1 - 1)) < 1000000000:=val_take_lt D _ _ (by rw [HN.out];exact hNb)
     have hnew:V*10+(s[j].toNat - 48)=val (D.take (j+1 - 1)):=by rw [hst.2,← HV.out]
     rw [← hnew] at hbd
     have HW:=Lib.hid hnew
     clear hst hne hnew
     go_wp2
     go_round
     case rel=>exact ⟨j+1,V*10+(s[j].toNat - 48),by omega,by omega,by go_num,by go_num,HW.out,hbd⟩
     case measure=>simp [intOf];omega
   · have ej:j=1+L:=by omega
     subst ej
     have eV:V=N:=by rw [HV.out,show 1+L - 1=L by omega,← HL.out,List.take_length];exact HN.out
     subst eV
     have hlt2:1+L < s.size:=by omega
     have hlt3:(((1+L:Nat):Int) < (s.size:Int)):=by omega
     have h47a:=H47.out hlt2
     have h47b:((s[1+L].toNat:Int) != 47)=false:=by rw [bne,h47a];rfl
     go_wp2
     go_loop [3,5] (fun x i=>∃ j U:Nat,1+L+1≤j∧j≤1+L+1+K∧i = .int .i64 j∧x = .int .i64 (U:Int)∧U=val (E.take (j - (1+L+1)))∧U < 1000000000) (fun _ i=>20 - (intOf i).toNat)
     case atStart=>exact ⟨1+L+1,0,by omega,by omega,by go_num,rfl,by simp [val,valFrom],by omega⟩
     case round =>
       obtain ⟨j,U,hj0,hj1,rfl,rfl,hU,hUb⟩:=hrel
       have HU:=Lib.hid hU
       clear hU
       by_cases hlt:j < 1+L+1+K
       · have hjs:j < s.size:=by omega
         have hst:=brief_step s (1+L+1) E _ HS2.out HE.out j hj0 (by rw [HK.out];omega) hjs
         have hd1:=isDig_iff.1 hst.1
         have hbd:val (E.take (j+1 - (1+L+1))) < 1000000000:=val_take_lt E _ _ (by rw [HM.out];exact hMb)
         have hnew:U*10+(s[j].toNat - 48)=val (E.take (j+1 - (1+L+1))):=by rw [hst.2,← HU.out]
         rw [← hnew] at hbd
         have HW:=Lib.hid hnew
         clear hst hnew
         go_wp2
         go_round
         case rel=>exact ⟨j+1,U*10+(s[j].toNat - 48),by omega,by omega,by go_num,by go_num,HW.out,hbd⟩
         case measure=>simp [intOf];omega
       · have ej:j=1+L+1+K:=by omega
         subst ej
         have eU:U=M:=by rw [HU.out,show 1+L+1+K - (1+L+1)=K by omega,← HK.out,List.take_length];exact HM.out
         subst eU
         have hge:¬ (((1+L+1+K:Nat):Int) < (s.size:Int)):=by omega
         go_wp2
         go_ret3
         exact ⟨retIIB (by omega) rfl rfl,Below.refl _ _⟩
theorem drop_past (D E:List UInt8):(D ++ 47 :: E).drop (D.length+1)=E:=by
 induction D with
 | nil=>rfl
 | cons a D ih=>simp
theorem head45 (q:Rat) (h0:0 < (ratB q).size) (b:Bool) (h:decide (q.num < 0)=b):(((ratB q)[0].toNat:Int) == 45)=b:=by
 have hn:=neg_of (ratB q) h0
 rw [show neg (ratB q).data.toList=decide (q.num < 0) from neg_ratS q,h] at hn
 cases b
 · exact byte_ne (d:=45) rfl (by simpa using hn.symm)
 · exact byte_eq (d:=45) rfl (by simpa using hn.symm)
theorem ratS_drop (q:Rat):(ratS q).drop (if q.num < 0 then 1 else 0)=Lib.decDigits q.num.natAbs ++ (if q.den=1 then [] else 47 :: Lib.decDigits q.den):=by
 have e0:(Lib.itoa q.num).drop (if q.num < 0 then 1 else 0)=Lib.decDigits q.num.natAbs:=by
   unfold Lib.itoa
   by_cases h:q.num < 0
   · rw [if_pos h,if_pos h];rfl
   · rw [if_neg h,if_neg h,List.drop_zero,show q.num.toNat=q.num.natAbs by omega]
 have el:(if q.num < 0 then 1 else 0)≤(Lib.itoa q.num).length:=by
   rw [itoa_len];have:=dlen_pos q.num;split <;> omega
 by_cases hd:q.den=1
 · rw [ratS_int hd,if_pos hd,List.append_nil,e0]
 · rw [ratS_frac hd,if_neg hd,List.drop_append_of_le_length el,e0,itoa_nat _ (Int.natCast_nonneg _),Int.toNat_natCast]
theorem short_parts (q:Rat) (h:(ratB q).size≤9):(-1000000000 < q.num∧q.num < 1000000000)∧(0 < (q.den:Int)∧(q.den:Int) < 1000000000):=by
 have hl:=ratS_len q
 rw [ratB_size] at h
 have h1:=dlen_lt q.num 9 (by omega)
 have h2:=dlen_lt (q.den:Int) 9 (by omega)
 have:=q.den_pos
 omega
theorem refBrief_short (q:Rat) (hs:(ratB q).size≤9) (w:World) (R:EnvR w) :
   Calls Tryz.prog 108 #[.string (ratB q)] w (Ret w (.tuple #[.int .i64 q.num,.int .i64 q.den,.bool true])):=by
 obtain ⟨b1,b2⟩:=short_parts q hs
 have h0:=ratB_pos q
 have hdr:=ratS_drop q
 have hln:=congrArg List.length hdr
 rw [List.length_drop,List.length_append] at hln
 have hsz:=ratB_size q
 have v1:=val_decDigits q.num.natAbs
 have v2:=val_decDigits q.den
 have d1:=decDigits_dig q.num.natAbs
 have d2:=decDigits_dig q.den
 by_cases hn:q.num < 0
 · rw [if_pos hn] at hdr hln
   have h45:=head45 q h0 _ (decide_eq_true hn)
   have hpos:=ratS_len q
   have:=dlen_pos q.num
   by_cases hd:q.den=1
   · rw [if_pos hd] at hdr hln
     rw [hd]
     have:=brief_mi (ratB q) _ _ d1 v1 (by omega) hs h0 h45 hdr (by simp only [List.length_nil] at hln;omega) w R
     rwa [show -((q.num.natAbs:Nat):Int)=q.num by omega] at this
   · rw [if_neg hd] at hdr hln
     rw [List.length_cons] at hln
     have hs2:(ratB q).data.toList.drop (1+(Lib.decDigits q.num.natAbs).length+1)=Lib.decDigits q.den ++ []:=by
       rw [List.append_nil,show 1+(Lib.decDigits q.num.natAbs).length+1=1+((Lib.decDigits q.num.natAbs).length+1) by omega,← List.drop_drop]
       exact (congrArg (List.drop ((Lib.decDigits q.num.natAbs).length+1)) hdr).trans (drop_past _ _)
     have:=brief_mf (ratB q) _ _ _ _ d1 v1 (by omega) hs h0 h45 d2 v2 (by omega) hdr (by omega) hs2 w R
     rwa [show -((q.num.natAbs:Nat):Int)=q.num by omega] at this
 · rw [if_neg hn] at hdr hln
   have h45:=head45 q h0 _ (decide_eq_false hn)
   by_cases hd:q.den=1
   · rw [if_pos hd] at hdr hln
     rw [hd]
     have:=brief_pi (ratB q) _ _ d1 v1 (by omega) hs h0 h45 hdr (by simp only [List.length_nil] at hln;omega) w R
     rwa [show ((q.num.natAbs:Nat):Int)=q.num by omega] at this
   · rw [if_neg hd] at hdr hln
     rw [List.length_cons] at hln
     have hs2:(ratB q).data.toList.drop ((Lib.decDigits q.num.natAbs).length+1)=Lib.decDigits q.den ++ []:=by
       rw [List.append_nil]
       rw [List.drop_zero] at hdr
       exact (congrArg (List.drop ((Lib.decDigits q.num.natAbs).length+1)) hdr).trans (drop_past _ _)
     have:=brief_pf (ratB q) _ _ _ _ d1 v1 (by omega) hs h0 h45 d2 v2 (by omega) hdr (by omega) hs2 w R
     rwa [show ((q.num.natAbs:Nat):Int)=q.num by omega] at this
end Go.Proofs.YtpennccflalobaaGreatDoor.Kl
