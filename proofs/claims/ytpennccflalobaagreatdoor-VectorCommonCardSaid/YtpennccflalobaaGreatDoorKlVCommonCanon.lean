import Derived.Test.YtpennccflalobaaGreatDoorKlBIntZ
namespace Go.Proofs.YtpennccflalobaaGreatDoor.Kl
open Go Go.RowKit
set_option maxRecDepth 100000
set_option maxHeartbeats 8000000
theorem ne_of_size (s:ByteArray) (h:0 < s.size):s.data.toList≠[]:=by
 intro e;rw [size_len,e] at h;simp at h
theorem size_zero_eq (s:ByteArray) (h:s.size=0):s=strOf []:=eq_strOf (by rw [size_len,List.length_eq_zero_iff] at h;exact h)
theorem isDig_lt {c:UInt8} (h:(c.toNat:Int) < 48):isDig c=false:=by
 unfold isDig;simp only [Bool.and_eq_false_iff,decide_eq_false_iff_not];omega
theorem isDig_gt {c:UInt8} (h:57 < (c.toNat:Int)):isDig c=false:=by
 unfold isDig;simp only [Bool.and_eq_false_iff,decide_eq_false_iff_not];omega
theorem isDig_in {c:UInt8} (h:48≤(c.toNat:Int)) (g:(c.toNat:Int)≤57):isDig c=true:=by
 unfold isDig;simp only [Bool.and_eq_true,decide_eq_true_eq];omega
theorem all_full {s:ByteArray} (H:(s.data.toList.take s.size).all isDig=true):s.data.toList.all isDig=true:=by
 rwa [List.take_of_length_le (by rw [Array.length_toList];exact Nat.le_refl _)] at H
theorem digB_of {s:ByteArray} (H:(s.data.toList.take s.size).all isDig=true) (h:0 < s.size):digB s.data.toList=true:=by
 rw [digB_iff];exact ⟨all_full H,ne_of_size s h⟩
theorem canon_no {s m:ByteArray} (hd:m.data.toList=mag s.data.toList) (k:Nat) (h:k < m.size) (d:isDig m[k]=false):canonB s.data.toList=false:=
 canon_nodig (by rw [← hd];exact digB_false_at m k h d)
theorem canonical_any (s:ByteArray) (w:World) (hs:s.size≤1000000) :
   Calls Tryz.prog 132 #[.string s] w (Ret w (.bool (canonB s.data.toList))):=by
 obtain ⟨b,hn⟩:∃ b,neg s.data.toList=b:=⟨_,rfl⟩
 have HN:=Lib.hid hn
 obtain ⟨m,hm⟩:∃ m,magB s=m:=⟨_,rfl⟩
 have hd:m.data.toList=mag s.data.toList:=by rw [← hm];rfl
 have hms:m.size≤1000000:=by rw [← hm];have:=magB_le s;omega
 have HD:=Lib.hid hd
 have HM:=Lib.hid hm
 clear hn hm hd
 have hb:=Below.refl w.heap.size w
 have h1:∀ w,Calls Tryz.prog 131 #[.string s] w (Ret w (.tuple #[.bool b,.string m])):=fun w=>by
   have:=split_any s w b HN.out;rwa [HM.out] at this
 have H1:=Lib.hid h1
 clear h1
 go_enter Tryz.func132,Tryz.ntmps132
 go_wp2_with (go_at_call 131;refine (chain hb (H1.out _)).mono ?_;clear hb;rintro e w1 ⟨rfl,hb⟩)
 obtain ⟨wo,rfl⟩:∃ wo,w1=wo:=⟨_,rfl⟩
 go_loop [5] (fun i=>∃ k:Nat,k≤m.size∧i = .int .i64 k∧(m.data.toList.take k).all isDig=true) (fun i=>m.size - (intOf i).toNat)
 case atStart=>exact ⟨0,Nat.zero_le _,rfl,rfl⟩
 case round =>
   obtain ⟨k,hk,rfl,hall⟩:=hrel
   have HA:=Lib.hid hall
   clear hall
   by_cases hlt:k < m.size
   · go_wp2
     · have hx:(m[k].toNat:Int) < 48∨57 < (m[k].toNat:Int):=by assumption
       go_ret
       exact ⟨retB (canon_no HD.out k hlt (hx.elim isDig_lt isDig_gt)).symm,hb⟩
     · have hx:48≤(m[k].toNat:Int)∧(m[k].toNat:Int)≤57:=by assumption
       go_round
       case rel=>exact ⟨k+1,by omega,by go_num,all_step m k hlt HA.out (isDig_in hx.1 hx.2)⟩
       case measure=>simp [intOf];omega
     · have hx:(m[k].toNat:Int) < 48:=by assumption
       go_ret
       exact ⟨retB (canon_no HD.out k hlt (isDig_lt hx)).symm,hb⟩
   · obtain rfl:k=m.size:=by omega
     by_cases hz:m.size=0
     · have hr:canonB s.data.toList=false:=canon_nodig (by rw [← HD.out,(size_zero_eq m hz)];rfl)
       have HR:=Lib.hid hr
       clear hr
       go_wp2
       go_ret
       exact ⟨retB HR.out.symm,hb⟩
     · have hpos:0 < m.size:=by omega
       have hdg:digB (mag s.data.toList)=true:=by rw [← HD.out];exact digB_of HA.out hpos
       have hml:(mag s.data.toList).length=m.size:=by rw [← HD.out,size_len]
       by_cases h48:((m[0].toNat:Int) == 48)=true
       · have hr:=canon_zero hdg (by rw [← HD.out];exact head_eq hpos h48)
         rw [HN.out,hml] at hr
         have HR:=Lib.hid hr
         clear hr hml hdg
         cases b with
         | true =>
           go_wp2
           go_ret
           exact ⟨retB HR.out.symm,hb⟩
         | false =>
           by_cases h1:1 < m.size
           · have h2:decide ((1:Int) < (m.size:Int))=true:=decide_eq_true (by omega)
             go_wp2
             go_ret
             exact ⟨retB (by rw [HR.out,decide_eq_true h1];rfl),hb⟩
           · have h2:decide ((1:Int) < (m.size:Int))=false:=decide_eq_false (by omega)
             go_wp2
             go_ret
             exact ⟨retB (by rw [HR.out,decide_eq_false h1];rfl),hb⟩
       · have h48':((m[0].toNat:Int) == 48)=false:=by simpa using h48
         have hr:=canon_of hdg (by rw [← HD.out];exact head_ne hpos h48')
         have HR:=Lib.hid hr
         clear hr hml hdg h48
         go_wp2
         go_ret
         exact ⟨retB HR.out.symm,hb⟩
theorem canonical_is (s:ByteArray) (w:World) (hs:s.size≤1000000) (b:Bool) (h:canonB s.data.toList=b) :
   Calls Tryz.prog 132 #[.string s] w (Ret w (.bool b)):=by
 rw [← h];exact canonical_any s w hs
theorem split_is (s:ByteArray) (w:World) :
   Calls Tryz.prog 131 #[.string s] w (Ret w (.tuple #[.bool (neg s.data.toList),.string (magB s)])):=split_any s w _ rfl
theorem right_any (s:ByteArray) (w:World) (hs:s.size≤1000000) (r:Bool) (hr:rightB s.data.toList=r) :
   Calls Tryz.prog 80 #[.string s] w (Ret w (.bool r)):=by
 have HR:=Lib.hid hr
 clear hr
 have hb:=Below.refl w.heap.size w
 have hm:=magB_le s
 cases hc:canonB s.data.toList with
 | false =>
   have HC:=Lib.hid hc
   clear hc
   go_enter Tryz.func80,Tryz.ntmps80
   go_wp2_with (first | (go_at_call 131;refine (chain hb (split_is _ _)).mono ?_;clear hb;rintro e w1 ⟨rfl,hb⟩) | (go_at_call 132;refine (chain hb (canonical_is _ _ hs _ HC.out)).mono ?_;clear hb;rintro e w1 ⟨rfl,hb⟩))
   go_ret
   exact ⟨retB (by rw [← HR.out];unfold rightB;rw [HC.out];rfl),hb⟩
 | true =>
   have HC:=Lib.hid hc
   clear hc
   by_cases hl:(magB s).size≤200
   · have h2:decide (((magB s).size:Int)≤200)=true:=decide_eq_true (by omega)
     go_enter Tryz.func80,Tryz.ntmps80
     go_wp2_with (first | (go_at_call 131;refine (chain hb (split_is _ _)).mono ?_;clear hb;rintro e w1 ⟨rfl,hb⟩) | (go_at_call 132;refine (chain hb (canonical_is _ _ hs _ HC.out)).mono ?_;clear hb;rintro e w1 ⟨rfl,hb⟩))
     go_ret
     exact ⟨retB (by rw [← HR.out];unfold rightB;rw [HC.out,← magB_size,decide_eq_true hl];rfl),hb⟩
   · have h2:decide (((magB s).size:Int)≤200)=false:=decide_eq_false (by omega)
     go_enter Tryz.func80,Tryz.ntmps80
     go_wp2_with (first | (go_at_call 131;refine (chain hb (split_is _ _)).mono ?_;clear hb;rintro e w1 ⟨rfl,hb⟩) | (go_at_call 132;refine (chain hb (canonical_is _ _ hs _ HC.out)).mono ?_;clear hb;rintro e w1 ⟨rfl,hb⟩))
     go_ret
     exact ⟨retB (by rw [← HR.out];unfold rightB;rw [HC.out,← magB_size,decide_eq_false hl];rfl),hb⟩
end Go.Proofs.YtpennccflalobaaGreatDoor.Kl
