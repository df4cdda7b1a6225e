import Derived.Lib.Strings
import Derived.Lib.TrimByte
import Derived.Lib.IndexBytes
import Derived.Lib.ParseIntB
import Derived.Lib.ItoaNum
import Derived.Lib.Hide
import Derived.Lib.ParseIntBTie
namespace Go.Proofs.YtpiiclmkbplkhaaGreatDoor.Kl
open Go
set_option maxRecDepth 100000
set_option maxHeartbeats 8000000
def isDig (c:UInt8):Bool:=decide (48≤c.toNat) && decide (c.toNat≤57)
def digB (l:List UInt8):Bool:=l.all isDig && !l.isEmpty
def neg (l:List UInt8):Bool:=l.head? == some 45
def mag (l:List UInt8):List UInt8:=if neg l then l.tail else l
def canonB (l:List UInt8):Bool:=digB (mag l) && !(((mag l).head? == some 48) && (neg l || decide (1 < (mag l).length)))
def rightB (l:List UInt8):Bool:=canonB l && decide ((mag l).length≤200)
theorem neg_cons (c:UInt8) (r:List UInt8):neg (c :: r)=(c == 45):=by simp [neg]
theorem mag_cons (c:UInt8) (r:List UInt8):mag (c :: r)=if c == 45 then r else c :: r:=by simp [mag,neg]
theorem trimPrefix_minus (l:List UInt8):Lib.trimPrefix l [45]=mag l:=by
 cases l with
 | nil=>decide
 | cons c r =>
   rw [mag_cons]
   unfold Lib.trimPrefix Lib.hasPrefix
   by_cases h:c=45
   · subst h;simp
   · have:(c == 45)=false:=by simpa using h
     simp [this,Ne.symm h]
theorem isDig_false_of {c:UInt8} (h:9 < ((c.toNat:Int) - 48) % 256):isDig c=false:=by
 have:=c.toNat_lt
 unfold isDig
 simp only [Bool.and_eq_false_iff,decide_eq_false_iff_not]
 omega
theorem isDig_true_of {c:UInt8} (h:((c.toNat:Int) - 48) % 256≤9):isDig c=true:=by
 have:=c.toNat_lt
 unfold isDig
 simp only [Bool.and_eq_true,decide_eq_true_eq]
 omega
theorem take_snoc (s:ByteArray) (k:Nat) (h:k < s.size):s.data.toList.take (k+1)=s.data.toList.take k ++ [s[k]]:=by
 rw [List.take_succ_eq_append_getElem (by simpa using h)];rfl
theorem all_step (s:ByteArray) (k:Nat) (h:k < s.size) (H:(s.data.toList.take k).all isDig=true) (d:isDig s[k]=true):(s.data.toList.take (k+1)).all isDig=true:=by
 rw [take_snoc s k h,List.all_append,H];simp [d]
theorem digB_false_at (s:ByteArray) (k:Nat) (h:k < s.size) (d:isDig s[k]=false):digB s.data.toList=false:=by
 unfold digB
 have:s.data.toList.all isDig=false:=by
   rw [List.all_eq_false]
   exact ⟨s[k],List.mem_of_getElem (i:=k) (h:=by simpa using h) rfl,by simp [d]⟩
 rw [this];rfl
theorem digB_end (s:ByteArray) (H:(s.data.toList.take s.size).all isDig=true):digB s.data.toList = !s.toList.isEmpty:=by
 rw [List.take_of_length_le (by rw [Array.length_toList];exact Nat.le_refl _)] at H
 unfold digB
 rw [H,Lib.toList_data];rfl
def valFrom (acc:Nat) (l:List UInt8):Nat:=l.foldl (fun a c=>a*10+(c.toNat - 48)) acc
def val (l:List UInt8):Nat:=valFrom 0 l
theorem valFrom_nil (a:Nat):valFrom a []=a:=rfl
theorem valFrom_cons (a:Nat) (c:UInt8) (r:List UInt8):valFrom a (c :: r)=valFrom (a*10+(c.toNat - 48)) r:=by unfold valFrom;rw [List.foldl_cons]
theorem valFrom_append (a:Nat) (l m:List UInt8):valFrom a (l ++ m)=valFrom (valFrom a l) m:=List.foldl_append ..
theorem arith_step (a d P v:Nat):(a*10+d)*P+v=a*(P*10)+(d*P+v):=by
 rw [Nat.add_mul,Nat.mul_assoc,Nat.mul_comm 10 P,Nat.add_assoc]
theorem valFrom_eq : ∀ (l:List UInt8) (a:Nat),valFrom a l=a*10 ^ l.length+valFrom 0 l
 | [],a=>by rw [valFrom_nil,valFrom_nil,List.length_nil,Nat.pow_zero,Nat.mul_one,Nat.add_zero]
 | c :: r,a=>by
   have h1:=valFrom_eq r (a*10+(c.toNat - 48))
   have h2:=valFrom_eq r (0*10+(c.toNat - 48))
   have h3:=arith_step a (c.toNat - 48) (10 ^ r.length) (valFrom 0 r)
   have h4:(0*10+(c.toNat - 48))=(c.toNat - 48):=by rw [Nat.zero_mul,Nat.zero_add]
   rw [valFrom_cons,valFrom_cons,h1,h2,h4,h3,List.length_cons,Nat.pow_succ]
theorem val_cons (c:UInt8) (r:List UInt8):val (c :: r)=(c.toNat - 48)*10 ^ r.length+val r:=by
 show valFrom (0*10+(c.toNat - 48)) r=_
 have h4:(0*10+(c.toNat - 48))=(c.toNat - 48):=by rw [Nat.zero_mul,Nat.zero_add]
 rw [h4,valFrom_eq];rfl
theorem isDig_iff {c:UInt8}:isDig c=true↔48≤c.toNat∧c.toNat≤57:=by unfold isDig;simp
theorem le_valFrom (l:List UInt8):∀ a,a≤valFrom a l:=by
 induction l with
 | nil=>intro a;exact Nat.le_refl _
 | cons c r ih=>intro a;rw [valFrom_cons];have:=ih (a*10+(c.toNat - 48));omega
theorem val_lt (l:List UInt8) (h:l.all isDig=true):val l < 10 ^ l.length:=by
 induction l with
 | nil=>simp [val,valFrom]
 | cons c r ih =>
   rw [List.all_cons,Bool.and_eq_true] at h
   have h1:=isDig_iff.1 h.1
   have h2:=ih h.2
   rw [val_cons,List.length_cons,Nat.pow_succ]
   have:(c.toNat - 48)*10 ^ r.length≤9*10 ^ r.length:=Nat.mul_le_mul_right _ (by omega)
   omega
theorem parseUint10_val : ∀ (l:List UInt8) (acc:Nat),l.all isDig=true→acc < 18446744073709551616 →
   Lib.parseUint10 acc l=if valFrom acc l < 18446744073709551616 then .ok (valFrom acc l) else .range
 | [],acc,_,ha=>by rw [valFrom_nil,if_pos ha];rfl
 | c :: r,acc,h,ha=>by
   rw [List.all_cons,Bool.and_eq_true] at h
   have h1:=isDig_iff.1 h.1
   have g:=le_valFrom r (acc*10+(c.toNat - 48))
   rw [valFrom_cons]
   simp only [Lib.parseUint10]
   rw [if_pos h1]
   by_cases b1:1844674407370955162≤acc
   · rw [if_pos b1,if_neg (by omega)]
   · rw [if_neg b1]
     by_cases b2:18446744073709551616≤acc*10+(c.toNat - 48)
     · rw [if_pos b2,if_neg (by omega)]
     · rw [if_neg b2,parseUint10_val r _ h.2 (by omega)]
def smallV (l:List UInt8):Option Int:=if 20 < l.length then none else match Lib.parseIntB 64 l with | .ok v=>some v | _=>none
def smI (l:List UInt8):Int:=(smallV l).getD 0
def smB (l:List UInt8):Bool:=(smallV l).isSome
theorem digB_iff {l:List UInt8}:digB l=true↔l.all isDig=true∧l≠[]:=by
 unfold digB;cases l <;> simp
theorem canon_parts {l:List UInt8} (h:canonB l=true):(mag l).all isDig=true∧mag l≠[]∧((mag l).head? = some 48→neg l=false∧(mag l).length=1):=by
 unfold canonB at h
 rw [Bool.and_eq_true] at h
 obtain ⟨h1,h2⟩:=h
 obtain ⟨a,b⟩:=digB_iff.1 h1
 refine ⟨a,b,fun e=>?_⟩
 rw [e] at h2
 simp at h2
 refine ⟨h2.1,?_⟩
 have:0 < (mag l).length:=List.length_pos_iff.2 b
 omega
theorem val_ge_of_head {l:List UInt8} (h:l.all isDig=true) (h0:l≠[]) (hh:l.head? ≠ some 48):10 ^ (l.length - 1)≤val l:=by
 cases l with
 | nil=>exact absurd rfl h0
 | cons c r =>
   rw [List.all_cons,Bool.and_eq_true] at h
   have h1:=isDig_iff.1 h.1
   have hc:c.toNat≠48:=fun e=>hh (by simp;exact UInt8.toNat.inj e)
   rw [val_cons,List.length_cons,Nat.add_sub_cancel]
   have:1*10 ^ r.length≤(c.toNat - 48)*10 ^ r.length:=Nat.mul_le_mul_right _ (by omega)
   omega
theorem mag_length (l:List UInt8):(mag l).length=l.length - (if neg l then 1 else 0):=by
 unfold mag;split <;> simp
theorem mag_neg_cons {l:List UInt8} (h:neg l=true):l=45 :: mag l:=by
 cases l with
 | nil=>simp [neg] at h
 | cons c r=>rw [neg_cons] at h;rw [mag_cons,h];simp at h;simp [h]
theorem mag_pos {l:List UInt8} (h:neg l=false):mag l=l:=by unfold mag;rw [h];rfl
theorem smallV_canon {l:List UInt8} (h:canonB l=true) :
   smallV l=if neg l then (if val (mag l)≤9223372036854775808 then some (-(val (mag l):Int)) else none) else if val (mag l) < 9223372036854775808 then some (val (mag l):Int) else none:=by
 obtain ⟨h1,h2,h3⟩:=canon_parts h
 unfold smallV
 by_cases hl:20 < l.length
 · rw [if_pos hl]
   have hm:20≤(mag l).length:=by rw [mag_length];split <;> omega
   have hv:10 ^ ((mag l).length - 1)≤val (mag l):=val_ge_of_head h1 h2 (fun e=>by have:=(h3 e).2;omega)
   have hp:10 ^ 19≤10 ^ ((mag l).length - 1):=Nat.pow_le_pow_right (by decide) (by omega)
   have hq:9223372036854775808 < 10 ^ 19:=by decide
   have hb:9223372036854775808 < val (mag l):=by omega
   have g1:¬ val (mag l)≤9223372036854775808:=by omega
   have g2:¬ val (mag l) < 9223372036854775808:=by omega
   rw [if_neg g1,if_neg g2]
   split <;> rfl
 · rw [if_neg hl,Lib.parseIntB_64]
   cases hn:neg l with
   | true =>
     rw [mag_neg_cons hn]
     have e:mag (45 :: mag l)=mag l:=by rw [mag_cons];rfl
     rw [e]
     simp only [Lib.atoiAll]
     rw [if_pos (Or.inr (by decide))]
     unfold Lib.parseMag
     rw [if_neg h2,parseUint10_val _ 0 h1 (by omega)]
     rw [show valFrom 0 (mag l)=val (mag l) from rfl]
     by_cases b:val (mag l) < 18446744073709551616
     · rw [if_pos b]
       by_cases c:val (mag l)≤9223372036854775808
       · simp [c,Nat.not_lt.2 c]
       · simp [c,Nat.lt_of_not_le c]
     · rw [if_neg b]
       have:¬ val (mag l)≤9223372036854775808:=by omega
       simp [this]
   | false =>
     rw [mag_pos hn] at *
     cases l with
     | nil=>exact absurd rfl h2
     | cons c r =>
       have hc:isDig c=true:=by rw [List.all_cons,Bool.and_eq_true] at h1;exact h1.1
       have hc':=isDig_iff.1 hc
       simp only [Lib.atoiAll]
       rw [if_neg (by omega)]
       unfold Lib.parseMag
       rw [if_neg h2,parseUint10_val _ 0 h1 (by omega)]
       rw [show valFrom 0 (c :: r)=val (c :: r) from rfl]
       have h45:¬ c.toNat=45:=by omega
       by_cases b:val (c :: r) < 18446744073709551616
       · rw [if_pos b]
         by_cases d:val (c :: r) < 9223372036854775808
         · simp [d,h45,Nat.not_le.2 d]
         · simp [d,h45,Nat.le_of_not_lt d]
       · rw [if_neg b]
         have:¬ val (c :: r) < 9223372036854775808:=by omega
         simp [this]
theorem decDigits_dig (u:Nat):(Lib.decDigits u).all isDig=true:=by
 induction u using Nat.strongRecOn with
 | _ u ih =>
   by_cases h:u < 10
   · rw [Lib.decDigits,dif_pos h]
     have:(UInt8.ofNat (48+u)).toNat=48+u:=by rw [UInt8.toNat_ofNat'];omega
     rw [List.all_cons,List.all_nil,Bool.and_true,isDig_iff,this];omega
   · rw [Lib.decDigits,dif_neg h,List.all_append,ih (u / 10) (by omega)]
     have:(UInt8.ofNat (48+u % 10)).toNat=48+u % 10:=by rw [UInt8.toNat_ofNat'];omega
     rw [List.all_cons,List.all_nil,Bool.and_true,Bool.true_and,isDig_iff,this];omega
theorem val_decDigits (u:Nat):val (Lib.decDigits u)=u:=by
 induction u using Nat.strongRecOn with
 | _ u ih =>
   by_cases h:u < 10
   · rw [Lib.decDigits,dif_pos h]
     have:(UInt8.ofNat (48+u)).toNat=48+u:=by rw [UInt8.toNat_ofNat'];omega
     rw [val_cons,this];simp [val,valFrom]
   · rw [Lib.decDigits,dif_neg h]
     unfold val
     rw [valFrom_append]
     show valFrom (val (Lib.decDigits (u / 10))) _=u
     rw [ih (u / 10) (by omega)]
     have:(UInt8.ofNat (48+u % 10)).toNat=48+u % 10:=by rw [UInt8.toNat_ofNat'];omega
     rw [valFrom_cons,valFrom_nil,this];omega
theorem decDigits_ne (u:Nat):Lib.decDigits u≠[]:=by
 rw [Lib.decDigits];split <;> simp
theorem head_append_ne {α:Type} {l m:List α} (h:l≠[]):(l ++ m).head? = l.head?:=by
 cases l with
 | nil=>exact absurd rfl h
 | cons a b=>rfl
theorem decDigits_head (u:Nat) (h0:0 < u):(Lib.decDigits u).head? ≠ some 48:=by
 induction u using Nat.strongRecOn with
 | _ u ih =>
   by_cases h:u < 10
   · rw [Lib.decDigits,dif_pos h]
     have:(UInt8.ofNat (48+u)).toNat=48+u:=by rw [UInt8.toNat_ofNat'];omega
     intro e
     simp only [List.head?_cons,Option.some.injEq] at e
     rw [e] at this
     have h48:(48:UInt8).toNat=48:=rfl
     omega
   · rw [Lib.decDigits,dif_neg h,head_append_ne (decDigits_ne _)]
     exact ih (u / 10) (by omega) (by omega)
theorem neg_dig {l:List UInt8} (h:l.all isDig=true):neg l=false:=by
 cases l with
 | nil=>rfl
 | cons c r =>
   rw [List.all_cons,Bool.and_eq_true] at h
   have h1:=isDig_iff.1 h.1
   rw [neg_cons]
   rw [beq_eq_false_iff_ne]
   intro e
   rw [e] at h1
   have h45:(45:UInt8).toNat=45:=rfl
   omega
theorem mag_decDigits (u:Nat):mag (Lib.decDigits u)=Lib.decDigits u:=mag_pos (neg_dig (decDigits_dig u))
theorem neg_itoa (n:Int):neg (Lib.itoa n)=decide (n < 0):=by
 unfold Lib.itoa
 by_cases h:n < 0
 · rw [if_pos h,neg_cons];simp [h]
 · rw [if_neg h,neg_dig (decDigits_dig _)];simp [h]
theorem mag_itoa (n:Int):mag (Lib.itoa n)=Lib.decDigits n.natAbs:=by
 unfold Lib.itoa
 by_cases h:n < 0
 · rw [if_pos h,mag_cons];rfl
 · rw [if_neg h,mag_decDigits]
   congr 1;omega
theorem decDigits_zero : Lib.decDigits 0=[48]:=by rw [Lib.decDigits];rfl
theorem canon_itoa (n:Int):canonB (Lib.itoa n)=true:=by
 unfold canonB
 rw [mag_itoa,neg_itoa]
 rw [Bool.and_eq_true]
 refine ⟨digB_iff.2 ⟨decDigits_dig _,decDigits_ne _⟩,?_⟩
 by_cases h:n=0
 · subst h
   show (!((Lib.decDigits 0).head? == some 48 && (false || decide (1 < (Lib.decDigits 0).length))))=true
   rw [decDigits_zero];rfl
 · have:((Lib.decDigits n.natAbs).head? == some 48)=false:=by
     rw [beq_eq_false_iff_ne];exact decDigits_head _ (by omega)
   rw [this];rfl
theorem smallV_itoa (n:Int) (h0 : -9223372036854775808≤n) (h1:n≤9223372036854775807):smallV (Lib.itoa n)=some n:=by
 rw [smallV_canon (canon_itoa n),neg_itoa,mag_itoa,val_decDigits]
 by_cases h:n < 0
 · have e:decide (n < 0)=true:=by simpa using h
   rw [e,if_pos rfl,if_pos (by omega)]
   congr 1;omega
 · have e:decide (n < 0)=false:=by simpa using h
   rw [e,if_neg (by simp),if_pos (by omega)]
   congr 1;omega
end Go.Proofs.YtpiiclmkbplkhaaGreatDoor.Kl
