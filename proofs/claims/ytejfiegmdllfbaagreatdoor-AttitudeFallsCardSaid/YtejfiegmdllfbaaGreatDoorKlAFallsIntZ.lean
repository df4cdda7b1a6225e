import Derived.Test.YtejfiegmdllfbaaGreatDoorKlShelf
import Derived.Test.YtejfiegmdllfbaaGreatDoorKlBIntZ
namespace Go.Proofs.YtejfiegmdllfbaaGreatDoor.Kl
open Go Go.RowKit
set_option maxRecDepth 100000
set_option maxHeartbeats 8000000
theorem retBS {a b:ByteArray} {x y:Bool} (h:x=y) (g:a=b):Ending.returned (.tuple #[.bool x,.string a]) = .returned (.tuple #[.bool y,.string b]):=by rw [h,g]
theorem neg_empty (s:ByteArray) (h:s.size=0):neg s.data.toList=false:=by
 rw [size_len,List.length_eq_zero_iff] at h;rw [h];rfl
set_option maxRecDepth 512 in
theorem split_minus (s:ByteArray) (w:World) (h0:0 < s.size) (h1:neg s.data.toList=true) :
   Calls Tryz.prog 159 #[.string s] w (Ret w (.tuple #[.bool true,.string (magB s)])):=by
 have h2:((s[0].toNat:Int) == 45)=true:=byte_eq (d:=45) rfl (by rw [neg_of s h0] at h1;simpa using h1)
 have h0':(0:Int) < (s.size:Int):=by omega
 have HH:=Lib.hid h1
 clear h1
 go_enter Tryz.func159,Tryz.ntmps159
 go_wp2
 go_quiet (fail)
 go_wp2
 go_ret2
 exact ⟨retBS rfl (magB_minus s HH.out),below_drewN _ _⟩
set_option maxRecDepth 512 in
theorem split_plus (s:ByteArray) (w:World) (h1:neg s.data.toList=false) :
   Calls Tryz.prog 159 #[.string s] w (Ret w (.tuple #[.bool false,.string (magB s)])):=by
 by_cases h0:0 < s.size
 · have h2:((s[0].toNat:Int) == 45)=false:=byte_ne (d:=45) rfl (by rw [neg_of s h0] at h1;simpa using h1)
   have h0':(0:Int) < (s.size:Int):=by omega
   have HH:=Lib.hid h1
   clear h1
   go_enter Tryz.func159,Tryz.ntmps159
   go_wp2
   go_ret2
   exact ⟨retBS rfl (magB_plus s HH.out),Below.refl _ _⟩
 · have h0':s.size=0:=by omega
   have HH:=Lib.hid h1
   clear h1
   go_enter Tryz.func159,Tryz.ntmps159
   go_wp2
   go_ret2
   exact ⟨retBS rfl (magB_plus s HH.out),Below.refl _ _⟩
theorem split_any (s:ByteArray) (w:World) (b:Bool) (h:neg s.data.toList=b) :
   Calls Tryz.prog 159 #[.string s] w (Ret w (.tuple #[.bool b,.string (magB s)])):=by
 cases b
 · exact split_plus s w h
 · refine split_minus s w ?_ h
   rcases Nat.eq_zero_or_pos s.size with e | e
   · rw [neg_empty s e] at h;cases h
   · exact e
end Go.Proofs.YtejfiegmdllfbaaGreatDoor.Kl
namespace Go.Proofs.YtejfiegmdllfbaaGreatDoor.Kl
open Go Go.RowKit
set_option maxRecDepth 100000
set_option maxHeartbeats 8000000
set_option maxRecDepth 512 in
theorem refOf_any (n:Int) (h0 : -9223372036854775808≤n) (h1:n≤9223372036854775807) (w:World) (E:Env w) :
   Calls Tryz.prog 199 #[.int .i64 n] w (Ret w (.string (itoaB n))):=by
 go_enter Tryz.func199,Tryz.ntmps199
 go_wp2_with (go_at_call 149;refine (itoa_call _ h0 h1 _ E).mono ?_;rintro e w1 ⟨rfl,hb1⟩)
 go_ret
 exact ⟨rfl,hb1⟩
end Go.Proofs.YtejfiegmdllfbaaGreatDoor.Kl
namespace Go.Proofs.YtejfiegmdllfbaaGreatDoor.Kl
open Go Go.RowKit
set_option maxRecDepth 100000
set_option maxHeartbeats 8000000
theorem ne_of_size (s:ByteArray) (h:0 < s.size):s.data.toList≠[]:=by
 intro e;rw [size_len,e] at h;simp at h
theorem size_zero_eq (s:ByteArray) (h:s.size=0):s=strOf []:=eq_strOf (by rw [size_len,List.length_eq_zero_iff] at h;exact h)
theorem isDig_lt {c:UInt8} (h:(c.toNat:Int) < 48):isDig c=false:=by
 unfold isDig;simp only [Bool.and_eq_false_iff,decide_eq_false_iff_not];omega
theorem isDig_gt {c:UInt8} (h:57 < (c.toNat:Int)):isDig c=false:=by
 unfold isDig;simp only [Bool.and_eq_false_iff,decide_eq_false_iff_not];omega
theorem isDig_in {c:UInt8} (h:48≤(c.toNat:Int)) (g:(c.toNat:Int)≤57):isDig c=true:=by
 unfold isDig;simp only [Bool.and_eq_true,decide_eq_true_eq];omega
theorem all_full {s:ByteArray} (H:(s.data.toList.take s.size).all isDig=true):s.data.toList.all isDig=true:=by
 rwa [List.take_of_length_le (by rw [Array.length_toList];exact Nat.le_refl _)] at H
theorem digB_of {s:ByteArray} (H:(s.data.toList.take s.size).all isDig=true) (h:0 < s.size):digB s.data.toList=true:=by
 rw [digB_iff];exact ⟨all_full H,ne_of_size s h⟩
theorem canon_no {s m:ByteArray} (hd:m.data.toList=mag s.data.toList) (k:Nat) (h:k < m.size) (d:isDig m[k]=false):canonB s.data.toList=false:=
 canon_nodig (by rw [← hd];exact digB_false_at m k h d)
theorem val_take_succ (s:ByteArray) (k:Nat) (h:k < s.size):val (s.data.toList.take (k+1))=val (s.data.toList.take k)*10+(s[k].toNat - 48):=by
 rw [take_snoc s k h]
 unfold val
 rw [valFrom_append,valFrom_cons,valFrom_nil]
theorem val_take_le (l:List UInt8) (k:Nat):val (l.take k)≤val l:=by
 have e:val l=valFrom (val (l.take k)) (l.drop k):=by
   unfold val;rw [← valFrom_append,List.take_append_drop]
 rw [e];exact le_valFrom _ _
theorem val_full (s:ByteArray):val (s.data.toList.take s.size)=val s.data.toList:=by
 rw [List.take_of_length_le (by rw [Array.length_toList];exact Nat.le_refl _)]
theorem tdiv_edge (D:Int) (h0:0≤D) (h1:D≤9):(-9223372036854775808+D).tdiv 10 = -((9223372036854775808 - D) / 10):=by
 have e : -9223372036854775808+D = -(9223372036854775808 - D):=by omega
 rw [e,Int.neg_tdiv,Int.tdiv_eq_ediv_of_nonneg (by omega)]
theorem refSmall_any (s:ByteArray) (w:World) (hs:s.size≤1000000) (hcan:canonB s.data.toList=true) :
   Calls Tryz.prog 222 #[.string s] w (Ret w (.tuple #[.int .i64 (smI s.data.toList),.bool (smB s.data.toList)])):=by
 obtain ⟨b,hn⟩:∃ b,neg s.data.toList=b:=⟨_,rfl⟩
 obtain ⟨m,hm⟩:∃ m,magB s=m:=⟨_,rfl⟩
 have hd:m.data.toList=mag s.data.toList:=by rw [← hm];rfl
 have hms:m.size≤1000000:=by rw [← hm];have:=magB_le s;omega
 obtain ⟨p1,p2,p3⟩:=canon_parts hcan
 have hv:=smallV_canon hcan
 rw [hn,← hd] at hv
 rw [← hd] at p1 p2 p3
 have h1:∀ w,Calls Tryz.prog 159 #[.string s] w (Ret w (.tuple #[.bool b,.string m])):=fun w=>by
   have:=split_any s w b hn;rwa [hm] at this
 have H1:=Lib.hid h1
 have HV:=Lib.hid hv
 have P1:=Lib.hid p1
 have hb:=Below.refl w.heap.size w
 by_cases hl:19 < m.size
 · have hge:10 ^ (m.data.toList.length - 1)≤val m.data.toList:=val_ge_of_head p1 p2 (fun e=>by have:=(p3 e).2;rw [size_len] at hl;omega)
   have hp:10 ^ 19≤10 ^ (m.data.toList.length - 1):=Nat.pow_le_pow_right (by decide) (by rw [← size_len];omega)
   have hq:9223372036854775808 < 10 ^ 19:=by decide
   have hnone:smallV s.data.toList=none:=by
     have g0:9223372036854775808 < val m.data.toList:=Nat.lt_of_lt_of_le hq (Nat.le_trans hp hge)
     have g1:¬ val m.data.toList≤9223372036854775808:=Nat.not_le.2 g0
     have g2:¬ val m.data.toList < 9223372036854775808:=fun h=>g1 (Nat.le_of_lt h)
     rw [hv,if_neg g1,if_neg g2];split <;> rfl
   have HN:=Lib.hid hnone
   clear hge hp hq hnone hv h1 p1 p2 p3 hcan hd hm hn
   go_enter Tryz.func222,Tryz.ntmps222
   go_wp2_with (go_at_call 159;refine (chain hb (H1.out _)).mono ?_;clear hb;rintro e w1 ⟨rfl,hb⟩)
   go_ret2
   exact ⟨retIB (by unfold smI;rw [HN.out];rfl) (by unfold smB;rw [HN.out];rfl),hb⟩
 · clear hv h1 p1 p2 p3 hcan hd hm hn
   go_enter Tryz.func222,Tryz.ntmps222
   go_wp2_with (go_at_call 159;refine (chain hb (H1.out _)).mono ?_;clear hb;rintro e w1 ⟨rfl,hb⟩)
   go_loop [6,7] (fun x i=>∃ k:Nat,k≤m.size∧i = .int .i64 k∧x = .int .i64 (-(val (m.data.toList.take k):Int))∧val (m.data.toList.take k)≤9223372036854775808) (fun _ i=>m.size - (intOf i).toNat)
   case atStart=>exact ⟨0,Nat.zero_le _,rfl,rfl,by simp [val,valFrom]⟩
   case round =>
     obtain ⟨k,hk,rfl,rfl,hle⟩:=hrel
     by_cases hlt:k < m.size
     · have hdig:isDig m[k]=true:=by
         have:=List.all_eq_true.1 P1.out m[k] (List.mem_of_getElem (i:=k) (h:=by simpa using hlt) rfl)
         exact this
       have hd1:=isDig_iff.1 hdig
       have HD:=Lib.hid hdig
       clear hdig
       obtain ⟨V,hV⟩:∃ V,val (m.data.toList.take k)=V:=⟨_,rfl⟩
       rw [hV] at hle ⊢
       have HVV:=Lib.hid hV
       clear hV
       have e10:=tdiv_edge ((m[k].toNat:Int) - 48) (by omega) (by omega)
       have hvs:val (m.data.toList.take (k+1))=V*10+(m[k].toNat - 48):=by rw [val_take_succ m k hlt,HVV.out]
       by_cases hov:9223372036854775808 < V*10+(m[k].toNat - 48)
       · have hT : -(V:Int) < (-9223372036854775808+((m[k].toNat:Int) - 48)).tdiv 10:=by rw [e10];omega
         have hbig:9223372036854775808 < val m.data.toList:=by
           have:=val_take_le m.data.toList (k+1);omega
         have hnone:smallV s.data.toList=none:=by
           have g1:¬ val m.data.toList≤9223372036854775808:=Nat.not_le.2 hbig
           have g2:¬ val m.data.toList < 9223372036854775808:=fun h=>g1 (Nat.le_of_lt h)
           rw [HV.out,if_neg g1,if_neg g2];split <;> rfl
         have HN:=Lib.hid hnone
         clear e10 hvs hov hbig hnone
         go_wp2
         go_ret2
         exact ⟨retIB (by unfold smI;rw [HN.out];rfl) (by unfold smB;rw [HN.out];rfl),hb⟩
       · have hT:(-9223372036854775808+((m[k].toNat:Int) - 48)).tdiv 10 ≤ -(V:Int):=by rw [e10];omega
         have hI:10*(V:Int)+((m[k].toNat:Int) - 48)≤9223372036854775808:=by omega
         have HS:=Lib.hid hvs
         clear e10 hvs hov
         go_wp2
         go_round
         case rel=>exact ⟨k+1,by omega,by go_num,by rw [HS.out];go_num,by rw [HS.out];omega⟩
         case measure=>simp [intOf];omega
     · obtain rfl:k=m.size:=by omega
       obtain ⟨V,hV⟩:∃ V,val (m.data.toList.take m.size)=V:=⟨_,rfl⟩
       have hV2:=hV
       rw [val_full] at hV2
       have hv:=HV.out
       rw [hV2] at hv
       rw [hV] at hle ⊢
       clear hV hV2
       cases b with
       | true =>
         rw [if_pos rfl,if_pos hle] at hv
         have HN:=Lib.hid hv
         clear hv
         go_wp2
         go_ret2
         exact ⟨retIB (by unfold smI;rw [HN.out];rfl) (by unfold smB;rw [HN.out];rfl),hb⟩
       | false =>
         rw [if_neg (by decide)] at hv
         by_cases hq:V < 9223372036854775808
         · rw [if_pos hq] at hv
           have hne:(-(V:Int) == -9223372036854775808)=false:=by rw [beq_eq_false_iff_ne];omega
           have HN:=Lib.hid hv
           clear hv
           go_wp2
           go_ret2
           exact ⟨retIB (by unfold smI;rw [HN.out];simp) (by unfold smB;rw [HN.out];rfl),hb⟩
         · rw [if_neg hq] at hv
           obtain rfl:V=9223372036854775808:=by omega
           have HN:=Lib.hid hv
           clear hv
           go_wp2
           go_ret2
           exact ⟨retIB (by unfold smI;rw [HN.out];rfl) (by unfold smB;rw [HN.out];rfl),hb⟩
theorem canonical_any (s:ByteArray) (w:World) (hs:s.size≤1000000) :
   Calls Tryz.prog 160 #[.string s] w (Ret w (.bool (canonB s.data.toList))):=by
 obtain ⟨b,hn⟩:∃ b,neg s.data.toList=b:=⟨_,rfl⟩
 have HN:=Lib.hid hn
 obtain ⟨m,hm⟩:∃ m,magB s=m:=⟨_,rfl⟩
 have hd:m.data.toList=mag s.data.toList:=by rw [← hm];rfl
 have hms:m.size≤1000000:=by rw [← hm];have:=magB_le s;omega
 have HD:=Lib.hid hd
 have HM:=Lib.hid hm
 clear hn hm hd
 have hb:=Below.refl w.heap.size w
 have h1:∀ w,Calls Tryz.prog 159 #[.string s] w (Ret w (.tuple #[.bool b,.string m])):=fun w=>by
   have:=split_any s w b HN.out;rwa [HM.out] at this
 have H1:=Lib.hid h1
 clear h1
 go_enter Tryz.func160,Tryz.ntmps160
 go_wp2_with (go_at_call 159;refine (chain hb (H1.out _)).mono ?_;clear hb;rintro e w1 ⟨rfl,hb⟩)
 obtain ⟨wo,rfl⟩:∃ wo,w1=wo:=⟨_,rfl⟩
 go_loop [5] (fun i=>∃ k:Nat,k≤m.size∧i = .int .i64 k∧(m.data.toList.take k).all isDig=true) (fun i=>m.size - (intOf i).toNat)
 case atStart=>exact ⟨0,Nat.zero_le _,rfl,rfl⟩
 case round =>
   obtain ⟨k,hk,rfl,hall⟩:=hrel
   have HA:=Lib.hid hall
   clear hall
   by_cases hlt:k < m.size
   · go_wp2
     · have hx:(m[k].toNat:Int) < 48∨57 < (m[k].toNat:Int):=by assumption
       go_ret
       exact ⟨retB (canon_no HD.out k hlt (hx.elim isDig_lt isDig_gt)).symm,hb⟩
     · have hx:48≤(m[k].toNat:Int)∧(m[k].toNat:Int)≤57:=by assumption
       go_round
       case rel=>exact ⟨k+1,by omega,by go_num,all_step m k hlt HA.out (isDig_in hx.1 hx.2)⟩
       case measure=>simp [intOf];omega
     · have hx:(m[k].toNat:Int) < 48:=by assumption
       go_ret
       exact ⟨retB (canon_no HD.out k hlt (isDig_lt hx)).symm,hb⟩
   · obtain rfl:k=m.size:=by omega
     by_cases hz:m.size=0
     · have hr:canonB s.data.toList=false:=canon_nodig (by rw [← HD.out,(size_zero_eq m hz)];rfl)
       have HR:=Lib.hid hr
       clear hr
       go_wp2
       go_ret
       exact ⟨retB HR.out.symm,hb⟩
     · have hpos:0 < m.size:=by omega
       have hdg:digB (mag s.data.toList)=true:=by rw [← HD.out];exact digB_of HA.out hpos
       have hml:(mag s.data.toList).length=m.size:=by rw [← HD.out,size_len]
       by_cases h48:((m[0].toNat:Int) == 48)=true
       · have hr:=canon_zero hdg (by rw [← HD.out];exact head_eq hpos h48)
         rw [HN.out,hml] at hr
         have HR:=Lib.hid hr
         clear hr hml hdg
         cases b with
         | true =>
           go_wp2
           go_ret
           exact ⟨retB HR.out.symm,hb⟩
         | false =>
           by_cases h1:1 < m.size
           · have h2:decide ((1:Int) < (m.size:Int))=true:=decide_eq_true (by omega)
             go_wp2
             go_ret
             exact ⟨retB (by rw [HR.out,decide_eq_true h1];rfl),hb⟩
           · have h2:decide ((1:Int) < (m.size:Int))=false:=decide_eq_false (by omega)
             go_wp2
             go_ret
             exact ⟨retB (by rw [HR.out,decide_eq_false h1];rfl),hb⟩
       · have h48':((m[0].toNat:Int) == 48)=false:=by simpa using h48
         have hr:=canon_of hdg (by rw [← HD.out];exact head_ne hpos h48')
         have HR:=Lib.hid hr
         clear hr hml hdg h48
         go_wp2
         go_ret
         exact ⟨retB HR.out.symm,hb⟩
theorem canonical_is (s:ByteArray) (w:World) (hs:s.size≤1000000) (b:Bool) (h:canonB s.data.toList=b) :
   Calls Tryz.prog 160 #[.string s] w (Ret w (.bool b)):=by
 rw [← h];exact canonical_any s w hs
theorem split_is (s:ByteArray) (w:World) :
   Calls Tryz.prog 159 #[.string s] w (Ret w (.tuple #[.bool (neg s.data.toList),.string (magB s)])):=split_any s w _ rfl
theorem right_any (s:ByteArray) (w:World) (hs:s.size≤1000000) (r:Bool) (hr:rightB s.data.toList=r) :
   Calls Tryz.prog 130 #[.string s] w (Ret w (.bool r)):=by
 have HR:=Lib.hid hr
 clear hr
 have hb:=Below.refl w.heap.size w
 have hm:=magB_le s
 cases hc:canonB s.data.toList with
 | false =>
   have HC:=Lib.hid hc
   clear hc
   go_enter Tryz.func130,Tryz.ntmps130
   go_wp2_with (first | (go_at_call 159;refine (chain hb (split_is _ _)).mono ?_;clear hb;rintro e w1 ⟨rfl,hb⟩) | (go_at_call 160;refine (chain hb (canonical_is _ _ hs _ HC.out)).mono ?_;clear hb;rintro e w1 ⟨rfl,hb⟩))
   go_ret
   exact ⟨retB (by rw [← HR.out];unfold rightB;rw [HC.out];rfl),hb⟩
 | true =>
   have HC:=Lib.hid hc
   clear hc
   by_cases hl:(magB s).size≤200
   · have h2:decide (((magB s).size:Int)≤200)=true:=decide_eq_true (by omega)
     go_enter Tryz.func130,Tryz.ntmps130
     go_wp2_with (first | (go_at_call 159;refine (chain hb (split_is _ _)).mono ?_;clear hb;rintro e w1 ⟨rfl,hb⟩) | (go_at_call 160;refine (chain hb (canonical_is _ _ hs _ HC.out)).mono ?_;clear hb;rintro e w1 ⟨rfl,hb⟩))
     go_ret
     exact ⟨retB (by rw [← HR.out];unfold rightB;rw [HC.out,← magB_size,decide_eq_true hl];rfl),hb⟩
   · have h2:decide (((magB s).size:Int)≤200)=false:=decide_eq_false (by omega)
     go_enter Tryz.func130,Tryz.ntmps130
     go_wp2_with (first | (go_at_call 159;refine (chain hb (split_is _ _)).mono ?_;clear hb;rintro e w1 ⟨rfl,hb⟩) | (go_at_call 160;refine (chain hb (canonical_is _ _ hs _ HC.out)).mono ?_;clear hb;rintro e w1 ⟨rfl,hb⟩))
     go_ret
     exact ⟨retB (by rw [← HR.out];unfold rightB;rw [HC.out,← magB_size,decide_eq_false hl];rfl),hb⟩
end Go.Proofs.YtejfiegmdllfbaaGreatDoor.Kl
