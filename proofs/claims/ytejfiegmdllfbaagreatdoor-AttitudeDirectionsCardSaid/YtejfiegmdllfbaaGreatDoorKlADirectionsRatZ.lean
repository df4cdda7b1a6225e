import Derived.Test.YtejfiegmdllfbaaGreatDoorKlADirectionsRefDivZ
import Derived.Test.YtejfiegmdllfbaaGreatDoorKlBRatZ
namespace Go.Proofs.YtejfiegmdllfbaaGreatDoor.Kl
open Go
set_option maxRecDepth 100000
set_option maxHeartbeats 8000000
theorem idx_miss : ∀ {l:List UInt8},(47:UInt8) ∉ l→Lib.indexByte l 47 = -1
 | [],_=>rfl
 | b :: l,h=>by
   have hb:(b == 47)=false:=by rw [beq_eq_false_iff_ne];exact fun e=>h (by simp [e])
   have ih:=idx_miss (l:=l) (fun hm=>h (List.mem_cons_of_mem _ hm))
   unfold Lib.indexByte
   rw [hb,ih];rfl
theorem idx_hit : ∀ {a b:List UInt8},(47:UInt8) ∉ a→Lib.indexByte (a ++ 47 :: b) 47=a.length
 | [],_,_=>rfl
 | c :: a,b,h=>by
   have hb:(c == 47)=false:=by rw [beq_eq_false_iff_ne];exact fun e=>h (by simp [e])
   have ih:=idx_hit (a:=a) (b:=b) (fun hm=>h (List.mem_cons_of_mem _ hm))
   rw [List.cons_append]
   unfold Lib.indexByte
   rw [hb,ih,if_neg (by decide),if_neg (by rw [beq_iff_eq];omega)]
   simp
theorem RL_of_size {q:Rat} {K:Nat} (h:(ratB q).size≤K):RL q K:=by
 have:=ratS_len q;rw [ratB_size] at h;exact ⟨by omega,by omega⟩
theorem sign_rat (q:Rat):q.num.sign=(if q < 0 then -1 else if q=0 then 0 else 1):=by
 rcases Int.lt_trichotomy q.num 0 with h | h | h
 · rw [Int.sign_eq_neg_one_of_neg h,if_pos]
   rw [← Rat.not_le,← Rat.num_nonneg];omega
 · have:q=0:=Rat.num_eq_zero.1 h
   subst this;rfl
 · rw [Int.sign_eq_one_of_pos h,if_neg,if_neg]
   · intro e;rw [e] at h;exact absurd h (by decide)
   · rw [← Rat.not_le,← Rat.num_nonneg];omega
end Go.Proofs.YtejfiegmdllfbaaGreatDoor.Kl
namespace Go.Proofs.YtejfiegmdllfbaaGreatDoor.Kl
open Go Go.RowKit
set_option maxRecDepth 100000
set_option maxHeartbeats 8000000
theorem refParts_int (s:ByteArray) (hc:∀ w,Calls Tryz.prog 131 #[.string s,.int .u8 47] w (Ret w (.int .i64 (-1)))) (w:World) (R:EnvR w) :
   Calls Tryz.prog 129 #[.string s] w (Ret w (.tuple #[.string s,.string ⟨#[49]⟩])):=by
 have c1:=fun (w:World) (R:EnvR w)=>hc w
 have C1:=Lib.hid c1
 clear c1 hc
 have hb:=Below.refl w.heap.size w
 go_enter Tryz.func129,Tryz.ntmps129
 go_wp2_with (go_at_call 131;with_reducible refine (chRA hb R C1).mono ?_;clear hb;rintro e w1 ⟨rfl,hb⟩)
 go_ret2
 exact ⟨rfl,hb⟩
theorem refParts_frac (s a b:ByteArray) (L:Nat) (hL:L < s.size) (hs:s.size≤1000000) (h1:s.extract 0 L=a) (h2:s.extract (L+1) s.size=b) (hc:∀ w,Calls Tryz.prog 131 #[.string s,.int .u8 47] w (Ret w (.int .i64 (L:Int)))) (w:World) (R:EnvR w) :
   Calls Tryz.prog 129 #[.string s] w (Ret w (.tuple #[.string a,.string b])):=by
 have c1:=fun (w:World) (R:EnvR w)=>hc w
 have C1:=Lib.hid c1
 clear c1 hc
 have H1:=Lib.hid h1
 have H2:=Lib.hid h2
 clear h1 h2
 have hb:=Below.refl w.heap.size w
 go_enter Tryz.func129,Tryz.ntmps129
 go_wp2_with (go_at_call 131;with_reducible refine (chRA hb R C1).mono ?_;clear hb;rintro e w1 ⟨rfl,hb⟩)
 go_quiet (fail)
 go_wp2
 go_ret2
 exact ⟨retSS H1.out H2.out,Below.drews hb _⟩
theorem drop_past (D E:List UInt8):(D ++ 47 :: E).drop (D.length+1)=E:=by
 induction D with
 | nil=>rfl
 | cons a D ih=>simp
theorem right_a (s a b:ByteArray) (c1':CR 129 #[.string s] (.tuple #[.string a,.string b])) (c2':CR 130 #[.string a] (.bool false)) (w:World) (R:EnvR w) :
   Calls Tryz.prog 96 #[.string s] w (Ret w (.bool false)):=by
 have c1:=c1'
 have c2:=c2'
 have C1:=Lib.hid c1
 have C2:=Lib.hid c2
 clear c1 c2 c1' c2'
 have hb:=Below.refl w.heap.size w
 go_enter Tryz.func96,Tryz.ntmps96
 go_wp2_with ((first | (go_at_call 129;with_reducible refine (chRA hb R C1).mono ?_) | (go_at_call 130;with_reducible refine (chRA hb R C2).mono ?_));clear hb;rintro e w1 ⟨rfl,hb⟩)
 go_ret
 exact ⟨rfl,hb⟩
theorem right_b (s a b:ByteArray) (c1':CR 129 #[.string s] (.tuple #[.string a,.string b])) (c2':CR 130 #[.string a] (.bool true)) (c3':CR 130 #[.string b] (.bool false)) (w:World) (R:EnvR w) :
   Calls Tryz.prog 96 #[.string s] w (Ret w (.bool false)):=by
 have c1:=c1'
 have c2:=c2'
 have c3:=c3'
 have C1:=Lib.hid c1
 have C2:=Lib.hid c2
 have C3:=Lib.hid c3
 clear c1 c2 c3 c1' c2' c3'
 have hb:=Below.refl w.heap.size w
 go_enter Tryz.func96,Tryz.ntmps96
 go_wp2_with ((first | (go_at_call 129;with_reducible refine (chRA hb R C1).mono ?_) | (go_at_call 130;first | with_reducible refine (chRA hb R C2).mono ?_ | with_reducible refine (chRA hb R C3).mono ?_));clear hb;rintro e w1 ⟨rfl,hb⟩)
 go_ret
 exact ⟨rfl,hb⟩
theorem right_c (s a b:ByteArray) (i:Int) (hi:i < 0) (c1':CR 129 #[.string s] (.tuple #[.string a,.string b])) (c2':CR 130 #[.string a] (.bool true)) (c3':CR 130 #[.string b] (.bool true)) (c4':CR 131 #[.string s,.int .u8 47] (.int .i64 i)) (w:World) (R:EnvR w) :
   Calls Tryz.prog 96 #[.string s] w (Ret w (.bool true)):=by
 have c1:=c1'
 have c2:=c2'
 have c3:=c3'
 have c4:=c4'
 have C1:=Lib.hid c1
 have C2:=Lib.hid c2
 have C3:=Lib.hid c3
 have C4:=Lib.hid c4
 clear c1 c2 c3 c4 c1' c2' c3' c4'
 have hb:=Below.refl w.heap.size w
 go_enter Tryz.func96,Tryz.ntmps96
 go_wp2_with ((first | (go_at_call 129;with_reducible refine (chRA hb R C1).mono ?_) | (go_at_call 130;first | with_reducible refine (chRA hb R C2).mono ?_ | with_reducible refine (chRA hb R C3).mono ?_) | (go_at_call 131;with_reducible refine (chRA hb R C4).mono ?_));clear hb;rintro e w1 ⟨rfl,hb⟩)
 go_ret
 exact ⟨rfl,hb⟩
theorem right_d (s a b:ByteArray) (i c:Int) (hi:0≤i) (hc:c≤0) (c1':CR 129 #[.string s] (.tuple #[.string a,.string b])) (c2':CR 130 #[.string a] (.bool true)) (c3':CR 130 #[.string b] (.bool true)) (c4':CR 131 #[.string s,.int .u8 47] (.int .i64 i)) (c5':CR 132 #[.string b,.string ⟨#[49]⟩] (.int .i64 c)) (w:World) (R:EnvR w) :
   Calls Tryz.prog 96 #[.string s] w (Ret w (.bool false)):=by
 have c1:=c1'
 have c2:=c2'
 have c3:=c3'
 have c4:=c4'
 have c5:=c5'
 have C1:=Lib.hid c1
 have C2:=Lib.hid c2
 have C3:=Lib.hid c3
 have C4:=Lib.hid c4
 have C5:=Lib.hid c5
 clear c1 c2 c3 c4 c5 c1' c2' c3' c4' c5'
 have hb:=Below.refl w.heap.size w
 go_enter Tryz.func96,Tryz.ntmps96
 go_wp2_with ((first | (go_at_call 129;with_reducible refine (chRA hb R C1).mono ?_) | (go_at_call 130;first | with_reducible refine (chRA hb R C2).mono ?_ | with_reducible refine (chRA hb R C3).mono ?_) | (go_at_call 131;with_reducible refine (chRA hb R C4).mono ?_) | (go_at_call 132;with_reducible refine (chRA hb R C5).mono ?_));clear hb;rintro e w1 ⟨rfl,hb⟩)
 go_ret
 exact ⟨rfl,hb⟩
theorem right_e (s a b:ByteArray) (i c:Int) (hi:0≤i) (hc:0 < c) (h0:(a.toList == [48])=true) (c1':CR 129 #[.string s] (.tuple #[.string a,.string b])) (c2':CR 130 #[.string a] (.bool true)) (c3':CR 130 #[.string b] (.bool true)) (c4':CR 131 #[.string s,.int .u8 47] (.int .i64 i)) (c5':CR 132 #[.string b,.string ⟨#[49]⟩] (.int .i64 c)) (w:World) (R:EnvR w) :
   Calls Tryz.prog 96 #[.string s] w (Ret w (.bool false)):=by
 have c1:=c1'
 have c2:=c2'
 have c3:=c3'
 have c4:=c4'
 have c5:=c5'
 have C1:=Lib.hid c1
 have C2:=Lib.hid c2
 have C3:=Lib.hid c3
 have C4:=Lib.hid c4
 have C5:=Lib.hid c5
 clear c1 c2 c3 c4 c5 c1' c2' c3' c4' c5'
 have hb:=Below.refl w.heap.size w
 go_enter Tryz.func96,Tryz.ntmps96
 go_wp2_with ((first | (go_at_call 129;with_reducible refine (chRA hb R C1).mono ?_) | (go_at_call 130;first | with_reducible refine (chRA hb R C2).mono ?_ | with_reducible refine (chRA hb R C3).mono ?_) | (go_at_call 131;with_reducible refine (chRA hb R C4).mono ?_) | (go_at_call 132;with_reducible refine (chRA hb R C5).mono ?_));clear hb;rintro e w1 ⟨rfl,hb⟩)
 go_ret
 exact ⟨rfl,hb⟩
theorem right_f_true (s a b g:ByteArray) (i c:Int) (hi:0≤i) (hc:0 < c) (h0:(a.toList == [48])=false) (hg:(g.toList == [49])=true) (c1':CR 129 #[.string s] (.tuple #[.string a,.string b])) (c2':CR 130 #[.string a] (.bool true)) (c3':CR 130 #[.string b] (.bool true)) (c4':CR 131 #[.string s,.int .u8 47] (.int .i64 i)) (c5':CR 132 #[.string b,.string ⟨#[49]⟩] (.int .i64 c)) (c6':CR 133 #[.string a,.string b] (.string g)) (w:World) (R:EnvR w) :
   Calls Tryz.prog 96 #[.string s] w (Ret w (.bool true)):=by
 have c1:=c1'
 have c2:=c2'
 have c3:=c3'
 have c4:=c4'
 have c5:=c5'
 have c6:=c6'
 have C1:=Lib.hid c1
 have C2:=Lib.hid c2
 have C3:=Lib.hid c3
 have C4:=Lib.hid c4
 have C5:=Lib.hid c5
 have C6:=Lib.hid c6
 clear c1 c2 c3 c4 c5 c6 c1' c2' c3' c4' c5' c6'
 have hb:=Below.refl w.heap.size w
 go_enter Tryz.func96,Tryz.ntmps96
 go_wp2_with ((first | (go_at_call 129;with_reducible refine (chRA hb R C1).mono ?_) | (go_at_call 130;first | with_reducible refine (chRA hb R C2).mono ?_ | with_reducible refine (chRA hb R C3).mono ?_) | (go_at_call 131;with_reducible refine (chRA hb R C4).mono ?_) | (go_at_call 132;with_reducible refine (chRA hb R C5).mono ?_) | (go_at_call 133;with_reducible refine (chRA hb R C6).mono ?_));clear hb;rintro e w1 ⟨rfl,hb⟩)
 go_ret
 exact ⟨rfl,hb⟩
theorem right_f_false (s a b g:ByteArray) (i c:Int) (hi:0≤i) (hc:0 < c) (h0:(a.toList == [48])=false) (hg:(g.toList == [49])=false) (c1':CR 129 #[.string s] (.tuple #[.string a,.string b])) (c2':CR 130 #[.string a] (.bool true)) (c3':CR 130 #[.string b] (.bool true)) (c4':CR 131 #[.string s,.int .u8 47] (.int .i64 i)) (c5':CR 132 #[.string b,.string ⟨#[49]⟩] (.int .i64 c)) (c6':CR 133 #[.string a,.string b] (.string g)) (w:World) (R:EnvR w) :
   Calls Tryz.prog 96 #[.string s] w (Ret w (.bool false)):=by
 have c1:=c1'
 have c2:=c2'
 have c3:=c3'
 have c4:=c4'
 have c5:=c5'
 have c6:=c6'
 have C1:=Lib.hid c1
 have C2:=Lib.hid c2
 have C3:=Lib.hid c3
 have C4:=Lib.hid c4
 have C5:=Lib.hid c5
 have C6:=Lib.hid c6
 clear c1 c2 c3 c4 c5 c6 c1' c2' c3' c4' c5' c6'
 have hb:=Below.refl w.heap.size w
 go_enter Tryz.func96,Tryz.ntmps96
 go_wp2_with ((first | (go_at_call 129;with_reducible refine (chRA hb R C1).mono ?_) | (go_at_call 130;first | with_reducible refine (chRA hb R C2).mono ?_ | with_reducible refine (chRA hb R C3).mono ?_) | (go_at_call 131;with_reducible refine (chRA hb R C4).mono ?_) | (go_at_call 132;with_reducible refine (chRA hb R C5).mono ?_) | (go_at_call 133;with_reducible refine (chRA hb R C6).mono ?_));clear hb;rintro e w1 ⟨rfl,hb⟩)
 go_ret
 exact ⟨rfl,hb⟩
theorem right_one (w:World):Calls Tryz.prog 130 #[.string ⟨#[49]⟩] w (Ret w (.bool true)):=right_any ⟨#[49]⟩ w (by decide) true (by decide)
theorem str_split {s:ByteArray} {a b:List UInt8} (h:s.data.toList=a ++ 47 :: b):s.extract 0 a.length=strOf a∧s.extract (a.length+1) s.size=strOf b:=by
 constructor
 · refine dat_inj ?_
   rw [← Lib.toList_data,Lib.extract_toList,h]
   show ((a ++ 47 :: b).drop 0).take (a.length - 0)=a
   simp
 · refine dat_inj ?_
   rw [Lib.extract_to_end,h]
   exact drop_past a b
theorem right_tt {a:List UInt8} {b:Bool} (h:rightB a=b) (hs:a.length≤1000000) (w:World) (_R:EnvR w):Calls Tryz.prog 130 #[.string (strOf a)] w (Ret w (.bool b)):=
 right_any (strOf a) w (by rw [strOf_size];exact hs) b h
theorem refRRight_any (s:ByteArray) (b:Bool) (hb:b=true↔IsRat s.data.toList) (hs:s.size≤100000) (w:World) (R:EnvR w) :
   Calls Tryz.prog 96 #[.string s] w (Ret w (.bool b)):=by
 have hix:∀ w,Calls Tryz.prog 131 #[.string s,.int .u8 47] w (Ret w (.int .i64 (Lib.indexByte s.data.toList 47))):=fun w=>by
   refine (Tryz.strings_IndexByte s 47 w).mono ?_
   rintro e w' ⟨he,rfl⟩
   exact ⟨he,Below.refl _ _⟩
 rcases slash_split s.data.toList with hn | ⟨a,d,e,hn⟩
 · rw [isRat_nos hn] at hb
   rw [idx_miss hn] at hix
   have hp:=fun (w:World) (R:EnvR w)=>refParts_int s hix w R
   have hr:rightB s.data.toList=b:=by rw [Bool.eq_iff_iff];exact hb.symm
   have c2:CR 130 #[.string s] (.bool b):=fun w _=>right_any s w (by omega) b hr
   cases b with
   | false=>exact right_a s _ _ hp c2 w R
   | true=>exact right_c s _ _ (-1) (by decide) hp c2 (fun w _=>right_one w) (fun w _=>hix w) w R
 · rw [e] at hb
   have hl:s.size=a.length+1+d.length:=by rw [size_len,e,List.length_append,List.length_cons];omega
   obtain ⟨s1,s2⟩:=str_split e
   rw [e,idx_hit hn] at hix
   have hp:CR 129 #[.string s] (.tuple #[.string (strOf a),.string (strOf d)]):=fun w R=>refParts_frac s _ _ a.length (by omega) (by omega) s1 s2 hix w R
   cases ha:rightB a with
   | false =>
     have hb0:b=false:=by
       cases b with
       | false=>rfl
       | true =>
         obtain ⟨x,y,f1,_,d1,_⟩:=(isRat_slash hn).1 (hb.1 rfl)
         rw [rightB_iff.2 ⟨x,f1,d1⟩] at ha;cases ha
     rw [hb0]
     exact right_a s _ _ hp (fun w R=>right_tt ha (by omega) w R) w R
   | true =>
     cases hd:rightB d with
     | false =>
       have hb0:b=false:=by
         cases b with
         | false=>rfl
         | true =>
           obtain ⟨x,y,_,f2,_,d2,_⟩:=(isRat_slash hn).1 (hb.1 rfl)
           rw [rightB_iff.2 ⟨y,f2,d2⟩] at hd;cases hd
       rw [hb0]
       exact right_b s _ _ hp (fun w R=>right_tt ha (by omega) w R) (fun w R=>right_tt hd (by omega) w R) w R
     | true =>
       obtain ⟨x,y,e1,e2,d1,d2,hi⟩:=split_right ha hd
       rw [hi hn] at hb
       have k1:=fun w R=>right_tt ha (by omega) w R
       have k2:=fun w R=>right_tt hd (by omega) w R
       rw [e1,e2] at hp
       rw [e1] at k1
       rw [e2] at k2
       have kc:CR 132 #[.string (itoaB y),.string ⟨#[49]⟩] (.int .i64 (y - 1).sign):=fun w R=>by
         have:=refCompare_any y 1 w R.env (Nat.le_trans d2 (by decide)) (by decide +kernel)
         rwa [itoa_one] at this
       have kg:=fun (w:World) (R:EnvR w)=>refGcd_any x y w R.env (Nat.le_trans d1 (by decide)) (Nat.le_trans d2 (by decide))
       by_cases hy:1 < y
       · have hc:0 < (y - 1).sign:=by rw [Int.sign_eq_one_of_pos (by omega)];decide
         by_cases hx:x=0
         · have hb0:b=false:=by
             cases b with
             | false=>rfl
             | true=>exact absurd hx (hb.1 rfl).1
           rw [hb0]
           exact right_e s _ _ _ _ (Int.natCast_nonneg _) hc (by rw [str_zero];exact decide_eq_true hx) hp k1 k2 (fun w _=>hix w) kc w R
         · have h0:((itoaB x).toList == [48])=false:=by rw [str_zero];exact decide_eq_false hx
           by_cases hgc:Nat.gcd x.natAbs y.natAbs=1
           · have hb0:b=true:=hb.2 ⟨hx,hy,hgc⟩
             rw [hb0]
             exact right_f_true s _ _ _ _ _ (Int.natCast_nonneg _) hc h0 (by rw [str_one,hgc];rfl) hp k1 k2 (fun w _=>hix w) kc kg w R
           · have hb0:b=false:=by
               cases b with
               | false=>rfl
               | true=>exact absurd (hb.1 rfl).2.2 hgc
             rw [hb0]
             exact right_f_false s _ _ _ _ _ (Int.natCast_nonneg _) hc h0 (by rw [str_one];exact decide_eq_false (by omega)) hp k1 k2 (fun w _=>hix w) kc kg w R
       · have hc:(y - 1).sign≤0:=by
           rcases Int.lt_trichotomy (y - 1) 0 with h | h | h
           · rw [Int.sign_eq_neg_one_of_neg h];decide
           · rw [h];decide
           · omega
         have hb0:b=false:=by
           cases b with
           | false=>rfl
           | true=>exact absurd (hb.1 rfl).2.1 hy
         rw [hb0]
         exact right_d s _ _ _ _ (Int.natCast_nonneg _) hc hp k1 k2 (fun w _=>hix w) kc w R
end Go.Proofs.YtejfiegmdllfbaaGreatDoor.Kl
