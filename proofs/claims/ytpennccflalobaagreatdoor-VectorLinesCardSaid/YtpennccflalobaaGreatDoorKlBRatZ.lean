import Derived.Lib.IndexMore
import Derived.Test.YtpennccflalobaaGreatDoorKlBGcdIZ
namespace Go.Proofs.YtpennccflalobaaGreatDoor.Kl
open Go
set_option maxRecDepth 100000
set_option maxHeartbeats 8000000
theorem dig_ne47 {c:UInt8} (h:isDig c=true):c≠47:=by
 rintro rfl;revert h;decide
theorem nos_dig {l:List UInt8} (h:l.all isDig=true):(47:UInt8) ∉ l:=fun hm=>dig_ne47 (List.all_eq_true.1 h 47 hm) rfl
theorem nos_dec (u:Nat):(47:UInt8) ∉ Lib.decDigits u:=nos_dig (decDigits_dig u)
theorem nos_itoa (n:Int):(47:UInt8) ∉ Lib.itoa n:=by
 unfold Lib.itoa;split
 · simp [nos_dec]
 · exact nos_dec _
theorem occ_head (s:List UInt8) (i:Nat):Lib.occAt s [47] i=(s[i]? == some 47):=by
 unfold Lib.occAt
 rw [← List.head?_drop]
 cases s.drop i with
 | nil=>rfl
 | cons b r =>
   by_cases h:b=47
   · subst h;simp
   · have h1:((47:UInt8) == b)=false:=by rw [beq_eq_false_iff_ne];exact fun e=>h e.symm
     have h2:(b == (47:UInt8))=false:=by rw [beq_eq_false_iff_ne];exact h
     show (((47:UInt8) == b) && List.isPrefixOf [] r)=(b == 47)
     rw [h1,h2];rfl
theorem cut_hit {a b:List UInt8} (h:(47:UInt8) ∉ a):Lib.cut (a ++ 47 :: b) [47]=(a,b,true):=by
 have e:Lib.index (a ++ 47 :: b) [47]=a.length:=Lib.index_first (by simp) (by rw [occ_head];simp) (fun j hj=>by
   rw [occ_head,List.getElem?_append_left hj,List.getElem?_eq_getElem hj]
   have:a[j]≠47:=fun e=>h (e ▸ List.getElem_mem hj)
   simp [this])
 unfold Lib.cut
 rw [e,if_pos (by omega)]
 simp
theorem cut_miss {l:List UInt8} (h:(47:UInt8) ∉ l):Lib.cut l [47]=(l,[],false):=by
 have e:Lib.index l [47] = -1:=by
   rcases Lib.index_spec l [47] with h1 | ⟨i,_,hi,ho,_⟩
   · exact h1.1
   · rw [occ_head,beq_iff_eq] at ho
     exact absurd (List.mem_of_getElem? ho) h
 unfold Lib.cut
 rw [e,if_neg (by decide)]
theorem slash_split (l:List UInt8):(47:UInt8) ∉ l∨∃ a b,l=a ++ 47 :: b∧(47:UInt8) ∉ a:=by
 by_cases h:(47:UInt8) ∈ l
 · obtain ⟨a,b,e,hn⟩:=List.eq_append_cons_of_mem h
   exact Or.inr ⟨a,b,e,hn⟩
 · exact Or.inl h
def ratS (q:Rat):List UInt8:=if q.den=1 then Lib.itoa q.num else Lib.itoa q.num ++ 47 :: Lib.itoa q.den
def ratB (q:Rat):ByteArray:=strOf (ratS q)
def RL (q:Rat) (K:Nat):Prop:=dlen q.num≤K∧dlen (q.den:Int)≤K
theorem RL.mono {q:Rat} {K M:Nat} (h:RL q K) (hk:K≤M):RL q M:=⟨Nat.le_trans h.1 hk,Nat.le_trans h.2 hk⟩
theorem ratS_int {q:Rat} (h:q.den=1):ratS q=Lib.itoa q.num:=by unfold ratS;rw [if_pos h]
theorem ratS_frac {q:Rat} (h:q.den≠1):ratS q=Lib.itoa q.num ++ 47 :: Lib.itoa q.den:=by unfold ratS;rw [if_neg h]
theorem ratB_int {q:Rat} (h:q.den=1):ratB q=itoaB q.num:=by unfold ratB;rw [ratS_int h];rfl
theorem itoaS_inj {x y:Int} (h:Lib.itoa x=Lib.itoa y):x=y:=itoa_inj (by unfold itoaB;rw [h])
theorem cut_rat (q:Rat):Lib.cut (ratS q) [47]=(Lib.itoa q.num,if q.den=1 then [] else Lib.itoa q.den,!decide (q.den=1)):=by
 by_cases h:q.den=1
 · rw [ratS_int h,cut_miss (nos_itoa _),if_pos h,decide_eq_true h];rfl
 · rw [ratS_frac h,cut_hit (nos_itoa _),if_neg h,decide_eq_false h];rfl
theorem ratS_inj {p q:Rat} (h:ratS p=ratS q):p=q:=by
 have h1:=cut_rat p
 rw [h,cut_rat q] at h1
 injection h1 with e1 e2
 injection e2 with e2 e3
 have n:=itoaS_inj e1
 by_cases hp:p.den=1
 · have hq:q.den=1:=by simpa [hp] using e3
   exact Rat.ext n.symm (by rw [hp,hq])
 · have hq:¬ q.den=1:=by intro hq;simp [hp,hq] at e3
   rw [if_neg hp,if_neg hq] at e2
   have:=itoaS_inj e2
   exact Rat.ext n.symm (by omega)
theorem dlen_pos (x:Int):0 < dlen x:=by unfold dlen;exact List.length_pos_iff.2 (decDigits_ne _)
theorem dlen_one : dlen ((1:Nat):Int)=1:=by decide +kernel
theorem ratS_len (q:Rat):dlen q.num≤(ratS q).length∧dlen (q.den:Int)≤(ratS q).length∧(ratS q).length≤dlen q.num+dlen (q.den:Int)+3:=by
 have h1:=itoa_len q.num
 have h2:=itoa_len (q.den:Int)
 rw [if_neg (by omega)] at h2
 have h3:=dlen_pos q.num
 by_cases h:q.den=1
 · rw [ratS_int h]
   have:dlen (q.den:Int)=1:=by rw [h];exact dlen_one
   split at h1 <;> omega
 · rw [ratS_frac h,List.length_append,List.length_cons]
   split at h1 <;> omega
theorem ratB_size (q:Rat):(ratB q).size=(ratS q).length:=strOf_size _
theorem size_of_RL {q:Rat} {K:Nat} (h:RL q K):(ratB q).size≤2*K+3:=by
 have:=ratS_len q;obtain ⟨h1,h2⟩:=h;rw [ratB_size];omega
def IsRat (l:List UInt8):Prop:=∃ q:Rat,l=ratS q∧RL q 200
theorem rightB_iff {l:List UInt8}:rightB l=true↔∃ x:Int,l=Lib.itoa x∧dlen x≤200:=by
 constructor
 · intro h
   unfold rightB at h
   rw [Bool.and_eq_true,decide_eq_true_eq] at h
   obtain ⟨x,e,d⟩:=canon_is_itoa h.1
   exact ⟨x,e,by omega⟩
 · rintro ⟨x,rfl,d⟩
   unfold rightB
   rw [canon_itoa,mag_itoa,Bool.true_and,decide_eq_true_eq]
   exact d
theorem isRat_nos {l:List UInt8} (h:(47:UInt8) ∉ l):IsRat l↔rightB l=true:=by
 rw [rightB_iff]
 constructor
 · rintro ⟨q,rfl,hq⟩
   by_cases hd:q.den=1
   · exact ⟨q.num,ratS_int hd,hq.1⟩
   · exact absurd (by rw [ratS_frac hd];simp) h
 · rintro ⟨x,rfl,d⟩
   exact ⟨(x:Rat),(ratS_int (q:=(x:Rat)) rfl).symm,d,by show dlen ((1:Nat):Int)≤200;rw [dlen_one];decide⟩
theorem isRat_slash {a b:List UInt8} (h:(47:UInt8) ∉ a) :
   IsRat (a ++ 47 :: b)↔∃ x y:Int,a=Lib.itoa x∧b=Lib.itoa y∧dlen x≤200∧dlen y≤200∧x≠0∧1 < y∧Nat.gcd x.natAbs y.natAbs=1:=by
 constructor
 · rintro ⟨q,e,hq⟩
   have e1:=cut_hit (b:=b) h
   rw [e,cut_rat q] at e1
   injection e1 with e1 e2
   injection e2 with e2 e3
   have hd:¬ q.den=1:=by simpa using e3
   rw [if_neg hd] at e2
   have hp:=q.den_pos
   refine ⟨q.num,q.den,e1.symm,e2.symm,hq.1,hq.2,fun h0=>hd ?_,by omega,q.reduced⟩
   have hr:Nat.gcd q.num.natAbs q.den=1:=q.reduced
   rw [h0] at hr
   simpa using hr
 · rintro ⟨x,y,rfl,rfl,dx,dy,x0,y1,hg⟩
   refine ⟨⟨x,y.natAbs,by omega,hg⟩,?_,dx,?_⟩
   · have hy:((y.natAbs:Nat):Int)=y:=by omega
     rw [ratS_frac (by show ¬ y.natAbs=1;omega)]
     show _=_ ++ 47 :: Lib.itoa ((y.natAbs:Nat):Int)
     rw [hy]
   · show dlen ((y.natAbs:Nat):Int)≤200
     rwa [show ((y.natAbs:Nat):Int)=y by omega]
theorem div_lift (a s k:Nat) (h:k ∣ a):(a*s) / k=(a / k)*s:=by
 obtain ⟨t,rfl⟩:=h
 rcases Nat.eq_zero_or_pos k with h0 | h0
 · subst h0;simp
 · rw [Nat.mul_assoc,Nat.mul_div_cancel_left _ h0,Nat.mul_div_cancel_left _ h0]
theorem add_parts (p q:Rat) (g share again:Nat) (num:Int) (hg:Nat.gcd p.den q.den=g) (hs:q.den / g=share)
   (hn:p.num*(share:Int)+q.num*((p.den / g:Nat):Int)=num) (ha:Nat.gcd num.natAbs g=again) :
   (p+q).num=num / (again:Int)∧(p+q).den=(p.den / again)*share:=by
 have g0:0 < g:=by rw [← hg];exact Nat.gcd_pos_of_pos_left _ p.den_pos
 have gp:g ∣ p.den:=by rw [← hg];exact Nat.gcd_dvd_left ..
 have gq:g ∣ q.den:=by rw [← hg];exact Nat.gcd_dvd_right ..
 have aux:=Rat.add.aux p q hg.symm rfl hs.symm
 have e1:p.den / g*g=p.den:=Nat.div_mul_cancel gp
 have e2:share*g=q.den:=by rw [← hs];exact Nat.div_mul_cancel gq
 simp only at aux
 rw [hn,ha] at aux
 have d0:p.den / g*q.den≠0:=Nat.mul_ne_zero (fun h=>by rw [h] at e1;have:=p.den_pos;omega) q.den_nz
 have key:p+q=Rat.normalize num (p.den / g*q.den) d0:=by
   rw [Rat.add_def,← Rat.normalize_mul_left (a:=g) d0 (by omega)]
   congr 1
   · rw [← hn,Int.mul_add]
     congr 1
     · rw [← e2];simp [Int.mul_comm,Int.mul_left_comm]
     · conv=>lhs;rw [← e1]
       simp [Int.mul_comm,Int.mul_left_comm]
   · conv=>lhs;rw [← e1]
     simp [Nat.mul_comm,Nat.mul_left_comm]
 rw [key]
 refine ⟨by rw [Rat.num_normalize,← aux],?_⟩
 rw [Rat.den_normalize,← aux]
 have e3:p.den / g*q.den=p.den*share:=by
   rw [← e2]
   calc p.den / g*(share*g)=(p.den / g*g)*share:=by simp [Nat.mul_comm,Nat.mul_left_comm]
     _=p.den*share:=by rw [e1]
 rw [e3]
 exact div_lift _ _ _ (Nat.dvd_trans (by rw [← ha];exact Nat.gcd_dvd_right ..) gp)
theorem mul_parts (p q:Rat):(p*q).num=p.num / ((Nat.gcd p.num.natAbs q.den:Nat):Int)*(q.num / ((Nat.gcd q.num.natAbs p.den:Nat):Int)) ∧
   (p*q).den=p.den / Nat.gcd q.num.natAbs p.den*(q.den / Nat.gcd p.num.natAbs q.den):=by
 have h1:p.num.tdiv ((Nat.gcd p.num.natAbs q.den:Nat):Int)=p.num / ((Nat.gcd p.num.natAbs q.den:Nat):Int):=
   Int.tdiv_eq_ediv_of_dvd (Int.ofNat_dvd_left.2 (Nat.gcd_dvd_left ..))
 have h2:q.num.tdiv ((Nat.gcd q.num.natAbs p.den:Nat):Int)=q.num / ((Nat.gcd q.num.natAbs p.den:Nat):Int):=
   Int.tdiv_eq_ediv_of_dvd (Int.ofNat_dvd_left.2 (Nat.gcd_dvd_left ..))
 show (Rat.mul p q).num=_∧(Rat.mul p q).den=_
 unfold Rat.mul
 simp only [Int.divExact_eq_tdiv,Nat.divExact_eq_div]
 exact ⟨by rw [h1,h2],trivial⟩
theorem add_mk (p q:Rat):Rat.divInt (p.num*q.den+q.num*p.den) ((p.den*q.den:Nat):Int)=p+q:=by
 rw [Rat.add_def',Rat.divInt_ofNat]
theorem mul_mk (p q:Rat):Rat.divInt (p.num*q.num) ((p.den*q.den:Nat):Int)=p*q:=by
 rw [Rat.mul_def',Rat.divInt_ofNat]
theorem dec_val : ∀ (l:List UInt8) (acc:Nat),l.all isDig=true→Lib.decFrom acc l=some (valFrom acc l)
 | [],_,_=>rfl
 | c :: r,acc,h=>by
   rw [List.all_cons,Bool.and_eq_true] at h
   have hd:=isDig_iff.1 h.1
   have e:Lib.digitVal c=some (c.toNat - 48):=by unfold Lib.digitVal;rw [if_pos ⟨hd.1,hd.2⟩]
   unfold Lib.decFrom
   rw [e,valFrom_cons]
   exact dec_val r _ h.2
theorem decNat_dec (u:Nat):Lib.decNat (Lib.decDigits u)=some u:=by
 unfold Lib.decNat
 rw [if_neg (by rw [List.isEmpty_iff];exact decDigits_ne u),dec_val _ _ (decDigits_dig u)]
 exact congrArg some (val_decDigits u)
theorem atoi_itoa (n:Int):Lib.atoi (Lib.itoa n)=some n:=by
 by_cases h:n < 0
 · have e:Lib.itoa n=45 :: Lib.decDigits n.natAbs:=by unfold Lib.itoa;rw [if_pos h]
   rw [e]
   unfold Lib.atoi
   dsimp only
   rw [if_pos (by decide),decNat_dec]
   show some (-((n.natAbs:Nat):Int))=_
   rw [show -((n.natAbs:Nat):Int)=n by omega]
 · have e:Lib.itoa n=Lib.decDigits n.toNat:=by unfold Lib.itoa;rw [if_neg h]
   have hd:=decDigits_dig n.toNat
   have h1:=decNat_dec n.toNat
   rw [e]
   cases hl:Lib.decDigits n.toNat with
   | nil=>exact absurd hl (decDigits_ne _)
   | cons c r =>
     rw [hl,List.all_cons,Bool.and_eq_true] at hd
     have hc:=isDig_iff.1 hd.1
     have c1:(c == 45)=false:=by rw [beq_eq_false_iff_ne];rintro rfl;exact absurd hc.1 (by decide)
     have c2:(c == 43)=false:=by rw [beq_eq_false_iff_ne];rintro rfl;exact absurd hc.1 (by decide)
     unfold Lib.atoi
     simp only [c1,c2,Bool.false_eq_true,if_false]
     rw [← hl,h1]
     show some ((n.toNat:Nat):Int)=_
     rw [show ((n.toNat:Nat):Int)=n by omega]
theorem cat_slash (a b:ByteArray):(a ++ ⟨#[47]⟩ ++ b).data.toList=a.data.toList ++ 47 :: b.data.toList:=by
 rw [ByteArray.data_append,ByteArray.data_append,Array.toList_append,Array.toList_append]
 show (_ ++ [47]) ++ _=_
 rw [List.append_assoc];rfl
theorem ratB_more {q:Rat} (h:q.den≠1):ratB q=itoaB q.num ++ ⟨#[47]⟩ ++ itoaB q.den:=by
 refine dat_inj ?_
 show ratS q=_
 rw [ratS_frac h,cat_slash];rfl
theorem ratS_zero : ratS 0=[48]:=by decide +kernel
theorem ratB_zero : ratB 0=⟨#[48]⟩:=by unfold ratB;rw [ratS_zero];rfl
theorem ratB_eq_zero (q:Rat):((ratB q).toList == [48])=decide (q=0):=by
 rw [Bool.eq_iff_iff,beq_iff_eq,decide_eq_true_iff,Lib.toList_data]
 constructor
 · intro h;refine ratS_inj ?_;rw [ratS_zero];exact h
 · rintro rfl;rw [ratB_zero]
theorem dlen_lt (x:Int) (K:Nat) (h:dlen x≤K):x.natAbs < 10 ^ K:=Nat.lt_of_lt_of_le (dig_lt x.natAbs) (Nat.pow_le_pow_right (by decide) h)
theorem dlen_le (x:Int) (K:Nat) (hK:0 < K) (h:x.natAbs < 10 ^ K):dlen x≤K:=dec_len_le _ _ h hK
end Go.Proofs.YtpennccflalobaaGreatDoor.Kl
namespace Go.Proofs.YtpennccflalobaaGreatDoor.Kl
open Go Go.RowKit
set_option maxRecDepth 100000
set_option maxHeartbeats 8000000
structure EnvR (w:World):Prop where
 env:Env w
 ml:∃ m,w.cell? ⟨1,0,none⟩=some (.int .i64 m)
theorem EnvR.below {w w':World} (h:EnvR w) (hb:Below w.heap.size w w'):EnvR w':=
 ⟨h.env.below hb,h.ml.imp fun m hm=>by rw [hb.cell (p:=⟨1,0,none⟩) (Lib.lt_of_cell hm)];exact hm⟩
@[reducible] def CR (f : FuncId) (args : Array Value) (v : Value) : Prop := ∀ w, EnvR w → Calls Tryz.prog f args w (Ret w v)
theorem chRC {f:FuncId} {args:Array Value} {v:Value} {w0 w:World} (hb:Below w0.heap.size w0 w) (R:EnvR w0) (C:Hid (∀ w,EnvR w→Calls Tryz.prog f args w (Ret w v))):Calls Tryz.prog f args w fun e w' => e = .returned v∧Below w.heap.size w w'∧Below w0.heap.size w0 w':=chain2 hb (C.out _ (R.below hb))
theorem chRA {f:FuncId} {args:Array Value} {v:Value} {w0 w:World} (hb:Below w0.heap.size w0 w) (R:EnvR w0) (C:Hid (∀ w,EnvR w→Calls Tryz.prog f args w (Ret w v))):Calls Tryz.prog f args w fun e w' => e = .returned v∧Below w0.heap.size w0 w':=chain hb (C.out _ (R.below hb))
theorem cut_call (s sep a b:ByteArray) (f:Bool) (h:Lib.cut s.data.toList sep.data.toList=(a.data.toList,b.data.toList,f)) (hs:s.size≤1000000) (w:World) (R:EnvR w) :
   Calls Tryz.prog 115 #[.string s,.string sep] w (Ret w (.tuple #[.string a,.string b,.bool f])):=by
 obtain ⟨m,hm⟩:=R.ml
 refine (Tryz.strings_Cut s sep m w (by omega) hm).mono ?_
 rintro e w' ⟨he,n,rfl⟩
 refine ⟨?_,below_drewN w n⟩
 rw [he,h]
theorem itoa_one : itoaB 1=⟨#[49]⟩:=by decide +kernel
theorem str_one (y:Int):((itoaB y).toList == [49])=decide (y=1):=by
 rw [Bool.eq_iff_iff,beq_iff_eq,decide_eq_true_iff,Lib.toList_data]
 constructor
 · intro h
   refine itoa_inj (dat_inj ?_)
   rw [h,itoa_one]
 · rintro rfl
   rw [itoa_one]
theorem str_zero (y:Int):((itoaB y).toList == [48])=decide (y=0):=by
 rw [Bool.eq_iff_iff,beq_iff_eq,decide_eq_true_iff,← itoa_eq_zero,Lib.toList_data]
 exact ⟨fun h=>dat_inj h,fun h=>by rw [h]⟩
theorem cut_ratB (q:Rat) (w:World) (R:EnvR w) (hq:RL q 100000) :
   Calls Tryz.prog 115 #[.string (ratB q),.string ⟨#[47]⟩] w (Ret w (.tuple #[.string (itoaB q.num),.string (if q.den=1 then ⟨#[]⟩ else itoaB q.den),.bool (!decide (q.den=1))])):=by
 have:=size_of_RL hq
 refine cut_call _ _ _ _ _ ?_ (by omega) w R
 show Lib.cut (ratS q) [47]=_
 rw [cut_rat]
 by_cases h:q.den=1
 · rw [if_pos h,if_pos h];rfl
 · rw [if_neg h,if_neg h];rfl
theorem rparts_cut (s a b r1 r2:ByteArray) (f:Bool) (hc:CR 115 #[.string s,.string ⟨#[47]⟩] (.tuple #[.string a,.string b,.bool f])) (h1:f=true→r1=a∧r2=b) (h2:f=false→r1=s∧r2=⟨#[49]⟩) (w:World) (R:EnvR w) :
   Calls Tryz.prog 87 #[.string s] w (Ret w (.tuple #[.string r1,.string r2])):=by
 have C1:=Lib.hid hc
 clear hc
 have hb:=Below.refl w.heap.size w
 cases f
 · obtain ⟨rfl,rfl⟩:=h2 rfl
   clear h1 h2
   go_enter Tryz.func87,Tryz.ntmps87
   go_wp2_with (go_at_call 115;refine (chain hb (C1.out _ (R.below hb))).mono ?_;clear hb;rintro e w1 ⟨rfl,hb⟩)
   go_ret2
   exact ⟨rfl,hb⟩
 · obtain ⟨rfl,rfl⟩:=h1 rfl
   clear h1 h2
   go_enter Tryz.func87,Tryz.ntmps87
   go_wp2_with (go_at_call 115;refine (chain hb (C1.out _ (R.below hb))).mono ?_;clear hb;rintro e w1 ⟨rfl,hb⟩)
   go_ret2
   exact ⟨rfl,hb⟩
theorem rparts_any (q:Rat) (w:World) (R:EnvR w) (hq:RL q 100000) :
   Calls Tryz.prog 87 #[.string (ratB q)] w (Ret w (.tuple #[.string (itoaB q.num),.string (itoaB q.den)])):=by
 refine rparts_cut (ratB q) _ _ _ _ _ (fun w R=>cut_ratB q w R hq) (fun h=>?_) (fun h=>?_) w R
 · have hd:q.den≠1:=by simpa using h
   exact ⟨rfl,by rw [if_neg hd]⟩
 · have hd:q.den=1:=by simpa using h
   exact ⟨(ratB_int hd).symm,by rw [hd];exact itoa_one⟩
theorem over_one (a b:ByteArray) (h1:(b.toList == [49])=true) (w:World) (_R:EnvR w) :
   Calls Tryz.prog 155 #[.string a,.string b] w (Ret w (.string a)):=by
 have hb:=Below.refl w.heap.size w
 go_enter Tryz.func155,Tryz.ntmps155
 go_wp2
 go_ret
 exact ⟨rfl,hb⟩
theorem over_more (x y:Int) (hx:dlen x≤40000) (hy:dlen y≤40000) (hy0:y≠0) (hy1:y≠1) (w:World) (R:EnvR w) :
   Calls Tryz.prog 155 #[.string (itoaB x),.string (itoaB y)] w (Ret w (.string (itoaB (x / y)))):=by
 have c1:=fun (w:World) (R:EnvR w)=>divMod_any x y w R.env hx hy hy0
 have h1:((itoaB y).toList == [49])=false:=by rw [str_one,decide_eq_false hy1]
 obtain ⟨q,eq⟩:∃ v,itoaB (x / y)=v:=⟨_,rfl⟩
 try simp only [eq] at c1 h1 ⊢
 obtain ⟨r,er⟩:∃ v,itoaB (x % y)=v:=⟨_,rfl⟩
 try simp only [er] at c1 h1 ⊢
 obtain ⟨a,ea⟩:∃ v,itoaB x=v:=⟨_,rfl⟩
 try simp only [ea] at c1 h1 ⊢
 obtain ⟨b,eb⟩:∃ v,itoaB y=v:=⟨_,rfl⟩
 try simp only [eb] at c1 h1 ⊢
 have C1:=Lib.hid c1
 clear c1 eq er ea eb hx hy hy0 hy1
 have hb:=Below.refl w.heap.size w
 go_enter Tryz.func155,Tryz.ntmps155
 go_wp2_with (go_at_call 89;with_reducible refine (chRA hb R C1).mono ?_;clear hb;rintro e w1 ⟨rfl,hb⟩)
 go_ret
 exact ⟨rfl,hb⟩
theorem over_any (x y:Int) (w:World) (R:EnvR w) (hx:dlen x≤40000) (hy:dlen y≤40000) (hy0:y≠0) :
   Calls Tryz.prog 155 #[.string (itoaB x),.string (itoaB y)] w (Ret w (.string (itoaB (x / y)))):=by
 by_cases h:y=1
 · subst h
   rw [Int.ediv_one]
   exact over_one _ _ (by rw [str_one];rfl) w R
 · exact over_more x y hx hy hy0 h w R
theorem join_one (a b:ByteArray) (h1:(b.toList == [49])=true) (w:World) (_R:EnvR w) :
   Calls Tryz.prog 154 #[.string a,.string b] w (Ret w (.string a)):=by
 have hb:=Below.refl w.heap.size w
 go_enter Tryz.func154,Tryz.ntmps154
 go_wp2
 go_ret
 exact ⟨rfl,hb⟩
theorem join_more (a b:ByteArray) (h1:(b.toList == [49])=false) (ha:a.size≤100001) (hb':b.size≤100001) (w:World) (_R:EnvR w) :
   Calls Tryz.prog 154 #[.string a,.string b] w (Ret w (.string (a ++ ⟨#[47]⟩ ++ b))):=by
 have hb:=Below.refl w.heap.size w
 go_enter Tryz.func154,Tryz.ntmps154
 go_wp2
 go_ret
 exact ⟨rfl,hb⟩
theorem join_any (q:Rat) (x y:Int) (hx:q.num=x) (hy:(q.den:Int)=y) (w:World) (R:EnvR w) (hq:RL q 100000) :
   Calls Tryz.prog 154 #[.string (itoaB x),.string (itoaB y)] w (Ret w (.string (ratB q))):=by
 subst hx hy
 by_cases h:q.den=1
 · rw [ratB_int h]
   exact join_one _ _ (by rw [str_one,h];rfl) w R
 · have e:ratB q=itoaB q.num ++ ⟨#[47]⟩ ++ itoaB q.den:=by
     refine dat_inj ?_
     show ratS q=_
     rw [ratS_frac h,ByteArray.data_append,ByteArray.data_append,Array.toList_append,Array.toList_append]
     show _=(Lib.itoa q.num ++ [47]) ++ Lib.itoa q.den
     rw [List.append_assoc];rfl
   rw [e]
   exact join_more _ _ (by rw [str_one];exact decide_eq_false (by omega)) (itoaB_size _ hq.1) (itoaB_size _ hq.2) w R
theorem rneg_any (q:Rat) (hq:RL q 40000) (w:World) (R:EnvR w) :
   Calls Tryz.prog 102 #[.string (ratB q)] w (Ret w (.string (ratB (-q)))):=by
 have c1:=fun (w:World) (R:EnvR w)=>rparts_any q w R (hq.mono (by decide))
 have c2:CR 153 #[.string (itoaB q.num)] (.string (itoaB (-q.num))):=fun w R=>neg_any _ w (Nat.le_trans hq.1 (by decide))
 have c3:CR 154 #[.string (itoaB (-q.num)),.string (itoaB q.den)] (.string (ratB (-q))):=fun w R=>join_any (-q) _ _ rfl rfl w R ⟨by show dlen (-q.num)≤_;rw [dlen_neg];exact Nat.le_trans hq.1 (by decide),Nat.le_trans hq.2 (by decide)⟩
 obtain ⟨r,er⟩:∃ v,ratB (-q)=v:=⟨_,rfl⟩
 try simp only [er] at c1 c2 c3 ⊢
 obtain ⟨n,en⟩:∃ v,itoaB (-q.num)=v:=⟨_,rfl⟩
 try simp only [en] at c1 c2 c3 ⊢
 obtain ⟨a,ea⟩:∃ v,itoaB q.num=v:=⟨_,rfl⟩
 try simp only [ea] at c1 c2 c3 ⊢
 obtain ⟨b,eb⟩:∃ v,itoaB q.den=v:=⟨_,rfl⟩
 try simp only [eb] at c1 c2 c3 ⊢
 obtain ⟨s,es⟩:∃ v,ratB q=v:=⟨_,rfl⟩
 try simp only [es] at c1 c2 c3 ⊢
 have C1:=Lib.hid c1
 have C2:=Lib.hid c2
 have C3:=Lib.hid c3
 clear c1 c2 c3 er en ea eb es hq
 have hb:=Below.refl w.heap.size w
 go_enter Tryz.func102,Tryz.ntmps102
 go_wp2_with ((first | (go_at_call 87;with_reducible refine (chRA hb R C1).mono ?_) | (go_at_call 153;with_reducible refine (chRA hb R C2).mono ?_) | (go_at_call 154;with_reducible refine (chRA hb R C3).mono ?_));clear hb;rintro e w1 ⟨rfl,hb⟩)
 go_ret
 exact ⟨rfl,hb⟩
theorem ratB_of (q:Rat) (x y:Int) (hx:q.num=x) (hy:(q.den:Int)=y):ratB q=if y=1 then itoaB x else itoaB x ++ ⟨#[47]⟩ ++ itoaB y:=by
 subst hx hy
 by_cases h:q.den=1
 · rw [if_pos (by omega),ratB_int h]
 · rw [if_neg (by omega),ratB_more h]
theorem gcd_pos_den {n d:Int} (hd:0 < d):0 < ((Nat.gcd n.natAbs d.natAbs:Nat):Int):=by
 have:=Nat.gcd_pos_of_pos_right n.natAbs (show 0 < d.natAbs by omega);omega
theorem mk_parts (n d:Int) (hd:0 < d):(Rat.divInt n d).num=n / ((Nat.gcd n.natAbs d.natAbs:Nat):Int)∧((Rat.divInt n d).den:Int)=d / ((Nat.gcd n.natAbs d.natAbs:Nat):Int):=by
 have h1:=Rat.num_divInt n d
 have h2:=Rat.den_divInt n d
 rw [Int.sign_eq_one_of_pos hd,Int.one_mul] at h1
 rw [if_neg (by omega)] at h2
 have e:d.gcd n=Nat.gcd n.natAbs d.natAbs:=Nat.gcd_comm ..
 rw [e] at h1 h2
 refine ⟨h1,?_⟩
 rw [h2,Int.natCast_ediv,show ((d.natAbs:Nat):Int)=d by omega]
theorem dlen_div (x:Int) (g:Nat) (K:Nat) (hK:0 < K) (h:dlen x≤K) (hg:(g:Int) ∣ x):dlen (x / (g:Int))≤K:=by
 unfold dlen at *
 refine dec_len_le _ _ (Nat.lt_of_le_of_lt ?_ (Nat.lt_of_lt_of_le (dig_lt x.natAbs) (Nat.pow_le_pow_right (by decide) h))) hK
 rw [Int.natAbs_ediv_of_dvd hg]
 exact Nat.div_le_self _ _
theorem dlen_gcd (n d:Int) (K:Nat) (hK:0 < K) (hd:0 < d) (h:dlen d≤K):dlen ((Nat.gcd n.natAbs d.natAbs:Nat):Int)≤K:=
 dlen_nat_le _ d K hK (Nat.gcd_le_right _ (by omega)) h
theorem gcd_dvd1 (n d:Int):((Nat.gcd n.natAbs d.natAbs:Nat):Int) ∣ n:=Int.ofNat_dvd_left.2 (Nat.gcd_dvd_left ..)
theorem gcd_dvd2 (n d:Int):((Nat.gcd n.natAbs d.natAbs:Nat):Int) ∣ d:=Int.ofNat_dvd_left.2 (Nat.gcd_dvd_right ..)
theorem RL_mk (n d:Int) (K:Nat) (hK:0 < K) (hd:0 < d) (hn:dlen n≤K) (hdl:dlen d≤K):RL (Rat.divInt n d) K:=by
 obtain ⟨h1,h2⟩:=mk_parts n d hd
 exact ⟨by rw [h1];exact dlen_div _ _ _ hK hn (gcd_dvd1 ..),by rw [h2];exact dlen_div _ _ _ hK hdl (gcd_dvd2 ..)⟩
theorem rnew_pos (n d:Int) (hn:dlen n≤40000) (hdl:dlen d≤40000) (hd:0 < d) (w:World) (R:EnvR w) :
   Calls Tryz.prog 91 #[.string (itoaB n),.string (itoaB d)] w (Ret w (.tuple #[.string (ratB (Rat.divInt n d)),.int .i64 0])):=by
 have c1:CR 152 #[.string (itoaB d)] (.int .i64 1):=fun w R=>by have:=sign_any d w;rwa [Int.sign_eq_one_of_pos hd] at this
 have c2:CR 88 #[.string (itoaB (n)),.string (itoaB (d))] (.string (itoaB ((Nat.gcd (n).natAbs (d).natAbs:Nat):Int))):=fun w R=>gcd_any _ _ w R.env hn hdl
 have c3:CR 155 #[.string (itoaB (n)),.string (itoaB ((Nat.gcd (n).natAbs (d).natAbs:Nat):Int))] (.string (itoaB ((n) / ((Nat.gcd (n).natAbs (d).natAbs:Nat):Int)))):=fun w R=>over_any _ _ w R hn (dlen_gcd _ _ _ (by decide) hd hdl) (by have:=gcd_pos_den (n:=n) hd;omega)
 have c4:CR 155 #[.string (itoaB (d)),.string (itoaB ((Nat.gcd (n).natAbs (d).natAbs:Nat):Int))] (.string (itoaB ((d) / ((Nat.gcd (n).natAbs (d).natAbs:Nat):Int)))):=fun w R=>over_any _ _ w R hdl (dlen_gcd _ _ _ (by decide) hd hdl) (by have:=gcd_pos_den (n:=n) hd;omega)
 have c5:CR 154 #[.string (itoaB ((n) / ((Nat.gcd (n).natAbs (d).natAbs:Nat):Int))),.string (itoaB ((d) / ((Nat.gcd (n).natAbs (d).natAbs:Nat):Int)))] (.string (ratB (Rat.divInt n d))):=fun w R=>join_any _ _ _ (mk_parts _ _ hd).1 (mk_parts _ _ hd).2 w R ((RL_mk _ _ _ (by decide) hd hn hdl).mono (by decide))
 obtain ⟨q,eq⟩:∃ v,ratB (Rat.divInt n d)=v:=⟨_,rfl⟩
 try simp only [eq] at c1 c2 c3 c4 c5 ⊢
 obtain ⟨c,ec⟩:∃ v,itoaB (n / ((Nat.gcd n.natAbs d.natAbs:Nat):Int))=v:=⟨_,rfl⟩
 try simp only [ec] at c1 c2 c3 c4 c5 ⊢
 obtain ⟨f,ef⟩:∃ v,itoaB (d / ((Nat.gcd n.natAbs d.natAbs:Nat):Int))=v:=⟨_,rfl⟩
 try simp only [ef] at c1 c2 c3 c4 c5 ⊢
 obtain ⟨g,eg⟩:∃ v,itoaB ((Nat.gcd n.natAbs d.natAbs:Nat):Int)=v:=⟨_,rfl⟩
 try simp only [eg] at c1 c2 c3 c4 c5 ⊢
 obtain ⟨a,ea⟩:∃ v,itoaB n=v:=⟨_,rfl⟩
 try simp only [ea] at c1 c2 c3 c4 c5 ⊢
 obtain ⟨b,eb⟩:∃ v,itoaB d=v:=⟨_,rfl⟩
 try simp only [eb] at c1 c2 c3 c4 c5 ⊢
 have C1:=Lib.hid c1
 have C2:=Lib.hid c2
 have C3:=Lib.hid c3
 have C4:=Lib.hid c4
 have C5:=Lib.hid c5
 clear c1 c2 c3 c4 c5 eq ec ef eg ea eb hn hdl hd
 have hb:=Below.refl w.heap.size w
 go_enter Tryz.func91,Tryz.ntmps91
 go_wp2_with ((first | (go_at_call 152;with_reducible refine (chRA hb R C1).mono ?_) | (go_at_call 88;with_reducible refine (chRA hb R C2).mono ?_) | (go_at_call 155;first | with_reducible refine (chRA hb R C3).mono ?_ | with_reducible refine (chRA hb R C4).mono ?_) | (go_at_call 154;with_reducible refine (chRA hb R C5).mono ?_));clear hb;rintro e w1 ⟨rfl,hb⟩)
 go_ret2
 exact ⟨rfl,hb⟩
theorem rnew_neg (n d:Int) (hn':dlen n≤40000) (hdl':dlen d≤40000) (hd':d < 0) (w:World) (R:EnvR w) :
   Calls Tryz.prog 91 #[.string (itoaB n),.string (itoaB d)] w (Ret w (.tuple #[.string (ratB (Rat.divInt n d)),.int .i64 0])):=by
 have hd:0 < -d:=by omega
 have hn:dlen (-n)≤40000:=by rw [dlen_neg];exact hn'
 have hdl:dlen (-d)≤40000:=by rw [dlen_neg];exact hdl'
 have c1:CR 152 #[.string (itoaB d)] (.int .i64 (-1)):=fun w R=>by have:=sign_any d w;rwa [Int.sign_eq_neg_one_of_neg hd'] at this
 have c2:=fun (w:World) (R:EnvR w)=>neg_any n w (Nat.le_trans hn' (by decide))
 have c3:=fun (w:World) (R:EnvR w)=>neg_any d w (Nat.le_trans hdl' (by decide))
 have c4:CR 88 #[.string (itoaB (-n)),.string (itoaB (-d))] (.string (itoaB ((Nat.gcd (-n).natAbs (-d).natAbs:Nat):Int))):=fun w R=>gcd_any _ _ w R.env hn hdl
 have c5:CR 155 #[.string (itoaB (-n)),.string (itoaB ((Nat.gcd (-n).natAbs (-d).natAbs:Nat):Int))] (.string (itoaB ((-n) / ((Nat.gcd (-n).natAbs (-d).natAbs:Nat):Int)))):=fun w R=>over_any _ _ w R hn (dlen_gcd _ _ _ (by decide) hd hdl) (by have:=gcd_pos_den (n:=-n) hd;omega)
 have c6:CR 155 #[.string (itoaB (-d)),.string (itoaB ((Nat.gcd (-n).natAbs (-d).natAbs:Nat):Int))] (.string (itoaB ((-d) / ((Nat.gcd (-n).natAbs (-d).natAbs:Nat):Int)))):=fun w R=>over_any _ _ w R hdl (dlen_gcd _ _ _ (by decide) hd hdl) (by have:=gcd_pos_den (n:=-n) hd;omega)
 have c7:CR 154 #[.string (itoaB ((-n) / ((Nat.gcd (-n).natAbs (-d).natAbs:Nat):Int))),.string (itoaB ((-d) / ((Nat.gcd (-n).natAbs (-d).natAbs:Nat):Int)))] (.string (ratB (Rat.divInt n d))):=fun w R=>by have:=join_any (Rat.divInt (-n) (-d)) _ _ (mk_parts (-n) (-d) hd).1 (mk_parts (-n) (-d) hd).2 w R ((RL_mk _ _ _ (by decide) hd hn hdl).mono (by decide));rwa [Rat.neg_divInt_neg] at this
 obtain ⟨q,eq⟩:∃ v,ratB (Rat.divInt n d)=v:=⟨_,rfl⟩
 try simp only [eq] at c1 c2 c3 c4 c5 c6 c7 ⊢
 obtain ⟨c,ec⟩:∃ v,itoaB (-n / ((Nat.gcd (-n).natAbs (-d).natAbs:Nat):Int))=v:=⟨_,rfl⟩
 try simp only [ec] at c1 c2 c3 c4 c5 c6 c7 ⊢
 obtain ⟨f,ef⟩:∃ v,itoaB (-d / ((Nat.gcd (-n).natAbs (-d).natAbs:Nat):Int))=v:=⟨_,rfl⟩
 try simp only [ef] at c1 c2 c3 c4 c5 c6 c7 ⊢
 obtain ⟨g,eg⟩:∃ v,itoaB ((Nat.gcd (-n).natAbs (-d).natAbs:Nat):Int)=v:=⟨_,rfl⟩
 try simp only [eg] at c1 c2 c3 c4 c5 c6 c7 ⊢
 obtain ⟨u,eu⟩:∃ v,itoaB (-n)=v:=⟨_,rfl⟩
 try simp only [eu] at c1 c2 c3 c4 c5 c6 c7 ⊢
 obtain ⟨v,ev⟩:∃ v,itoaB (-d)=v:=⟨_,rfl⟩
 try simp only [ev] at c1 c2 c3 c4 c5 c6 c7 ⊢
 obtain ⟨a,ea⟩:∃ v,itoaB n=v:=⟨_,rfl⟩
 try simp only [ea] at c1 c2 c3 c4 c5 c6 c7 ⊢
 obtain ⟨b,eb⟩:∃ v,itoaB d=v:=⟨_,rfl⟩
 try simp only [eb] at c1 c2 c3 c4 c5 c6 c7 ⊢
 have C1:=Lib.hid c1
 have C2:=Lib.hid c2
 have C3:=Lib.hid c3
 have C4:=Lib.hid c4
 have C5:=Lib.hid c5
 have C6:=Lib.hid c6
 have C7:=Lib.hid c7
 clear c1 c2 c3 c4 c5 c6 c7 eq ec ef eg eu ev ea eb hn hdl hd hn' hdl' hd'
 have hb:=Below.refl w.heap.size w
 go_enter Tryz.func91,Tryz.ntmps91
 go_wp2_with ((first | (go_at_call 152;with_reducible refine (chRA hb R C1).mono ?_) | (go_at_call 153;first | with_reducible refine (chRA hb R C2).mono ?_ | with_reducible refine (chRA hb R C3).mono ?_) | (go_at_call 88;with_reducible refine (chRA hb R C4).mono ?_) | (go_at_call 155;first | with_reducible refine (chRA hb R C5).mono ?_ | with_reducible refine (chRA hb R C6).mono ?_) | (go_at_call 154;with_reducible refine (chRA hb R C7).mono ?_));clear hb;rintro e w1 ⟨rfl,hb⟩)
 go_ret2
 exact ⟨rfl,hb⟩
theorem rnew_any (n d:Int) (w:World) (R:EnvR w) (hn:dlen n≤40000) (hdl:dlen d≤40000) (hd:d≠0) :
   Calls Tryz.prog 91 #[.string (itoaB n),.string (itoaB d)] w (Ret w (.tuple #[.string (ratB (Rat.divInt n d)),.int .i64 0])):=by
 by_cases h:0 < d
 · exact rnew_pos n d hn hdl h w R
 · exact rnew_neg n d hn hdl (by omega) w R
theorem dlen_int (n:Int) (h0 : -9223372036854775808≤n) (h1:n≤9223372036854775807):dlen n≤30:=by
 unfold dlen
 exact dec_len_le _ _ (show n.natAbs < 10 ^ 30 by omega) (by decide)
theorem frac_pa1 (n d:Int) (hn':dlen n≤2000) (hdl':dlen d≤2000) (hd':0 < d) (hs:9 < (itoaB n).size) (h1:((itoaB (d / ((Nat.gcd n.natAbs d.natAbs:Nat):Int))).toList == [49])=true) (w:World) (R:EnvR w) :
   Calls Tryz.prog 93 #[.string (itoaB n),.string (itoaB d)] w (Ret w (.string (itoaB (n / ((Nat.gcd n.natAbs d.natAbs:Nat):Int))))):=by
 have hd:=hd'
 have hn:=hn'
 have hdl:=hdl'
 have hcs:=dlen_div n (Nat.gcd n.natAbs d.natAbs) 2000 (by decide) hn (gcd_dvd1 _ _)
 have hfs:=dlen_div d (Nat.gcd n.natAbs d.natAbs) 2000 (by decide) hdl (gcd_dvd2 _ _)
 have zc:=itoaB_size _ (Nat.le_trans hcs (by decide))
 have zf:=itoaB_size _ (Nat.le_trans hfs (by decide))
 have c1:CR 134 #[.string (itoaB d)] (.int .i64 1):=fun w R=>by have:=refSign_any d w;rwa [Int.sign_eq_one_of_pos hd'] at this
 have c2:CR 83 #[.string (itoaB n),.string (itoaB d)] (.string (itoaB ((Nat.gcd n.natAbs d.natAbs:Nat):Int))):=fun w R=>refGcd_any _ _ w R.env hn hdl
 have c3:CR 137 #[.string (itoaB n),.string (itoaB ((Nat.gcd n.natAbs d.natAbs:Nat):Int))] (.tuple #[.string (itoaB (n / ((Nat.gcd n.natAbs d.natAbs:Nat):Int))),.string (itoaB (n % ((Nat.gcd n.natAbs d.natAbs:Nat):Int)))]):=fun w R=>refDivMod_any _ _ w R.env (Nat.le_trans hn (by decide)) (Nat.le_trans (dlen_gcd _ _ _ (by decide) hd hdl) (by decide)) (by have:=gcd_pos_den (n:=n) hd;omega)
 have c4:CR 137 #[.string (itoaB d),.string (itoaB ((Nat.gcd n.natAbs d.natAbs:Nat):Int))] (.tuple #[.string (itoaB (d / ((Nat.gcd n.natAbs d.natAbs:Nat):Int))),.string (itoaB (d % ((Nat.gcd n.natAbs d.natAbs:Nat):Int)))]):=fun w R=>refDivMod_any _ _ w R.env (Nat.le_trans hdl (by decide)) (Nat.le_trans (dlen_gcd _ _ _ (by decide) hd hdl) (by decide)) (by have:=gcd_pos_den (n:=n) hd;omega)
 have z1:9 < ((itoaB n).size:Int):=by omega
 have zc':(itoaB (n / ((Nat.gcd n.natAbs d.natAbs:Nat):Int))).size≤100001:=zc
 have zf':(itoaB (d / ((Nat.gcd n.natAbs d.natAbs:Nat):Int))).size≤100001:=zf
 have h1':((itoaB (d / ((Nat.gcd n.natAbs d.natAbs:Nat):Int))).toList == [49])=true:=h1
 obtain ⟨c,ec⟩:∃ v,itoaB (n / ((Nat.gcd n.natAbs d.natAbs:Nat):Int))=v:=⟨_,rfl⟩
 try simp only [ec] at c1 c2 c3 c4 z1 zc' zf' h1' ⊢
 obtain ⟨f,ef⟩:∃ v,itoaB (d / ((Nat.gcd n.natAbs d.natAbs:Nat):Int))=v:=⟨_,rfl⟩
 try simp only [ef] at c1 c2 c3 c4 z1 zc' zf' h1' ⊢
 obtain ⟨c',ec'⟩:∃ v,itoaB (n % ((Nat.gcd n.natAbs d.natAbs:Nat):Int))=v:=⟨_,rfl⟩
 try simp only [ec'] at c1 c2 c3 c4 z1 zc' zf' h1' ⊢
 obtain ⟨f',ef'⟩:∃ v,itoaB (d % ((Nat.gcd n.natAbs d.natAbs:Nat):Int))=v:=⟨_,rfl⟩
 try simp only [ef'] at c1 c2 c3 c4 z1 zc' zf' h1' ⊢
 obtain ⟨g,eg⟩:∃ v,itoaB ((Nat.gcd n.natAbs d.natAbs:Nat):Int)=v:=⟨_,rfl⟩
 try simp only [eg] at c1 c2 c3 c4 z1 zc' zf' h1' ⊢
 obtain ⟨a,ea⟩:∃ v,itoaB n=v:=⟨_,rfl⟩
 try simp only [ea] at c1 c2 c3 c4 z1 zc' zf' h1' ⊢
 obtain ⟨b,eb⟩:∃ v,itoaB d=v:=⟨_,rfl⟩
 try simp only [eb] at c1 c2 c3 c4 z1 zc' zf' h1' ⊢
 have C1:=Lib.hid c1
 have C2:=Lib.hid c2
 have C3:=Lib.hid c3
 have C4:=Lib.hid c4
 clear c1 c2 c3 c4 ec ef ec' ef' eg ea eb hn hdl hd hn' hdl' hd' hs h1 hcs hfs zc zf
 have hb:=Below.refl w.heap.size w
 go_enter Tryz.func93,Tryz.ntmps93
 go_wp2_with ((first | (go_at_call 134;with_reducible refine (chRA hb R C1).mono ?_) | (go_at_call 83;with_reducible refine (chRA hb R C2).mono ?_) | (go_at_call 137;first | with_reducible refine (chRA hb R C3).mono ?_ | with_reducible refine (chRA hb R C4).mono ?_));clear hb;rintro e w1 ⟨rfl,hb⟩)
 go_ret
 exact ⟨rfl,hb⟩
theorem frac_pa2 (n d:Int) (hn':dlen n≤2000) (hdl':dlen d≤2000) (hd':0 < d) (hs:9 < (itoaB n).size) (h1:((itoaB (d / ((Nat.gcd n.natAbs d.natAbs:Nat):Int))).toList == [49])=false) (w:World) (R:EnvR w) :
   Calls Tryz.prog 93 #[.string (itoaB n),.string (itoaB d)] w (Ret w (.string (itoaB (n / ((Nat.gcd n.natAbs d.natAbs:Nat):Int)) ++ ⟨#[47]⟩ ++ itoaB (d / ((Nat.gcd n.natAbs d.natAbs:Nat):Int))))):=by
 have hd:=hd'
 have hn:=hn'
 have hdl:=hdl'
 have hcs:=dlen_div n (Nat.gcd n.natAbs d.natAbs) 2000 (by decide) hn (gcd_dvd1 _ _)
 have hfs:=dlen_div d (Nat.gcd n.natAbs d.natAbs) 2000 (by decide) hdl (gcd_dvd2 _ _)
 have zc:=itoaB_size _ (Nat.le_trans hcs (by decide))
 have zf:=itoaB_size _ (Nat.le_trans hfs (by decide))
 have c1:CR 134 #[.string (itoaB d)] (.int .i64 1):=fun w R=>by have:=refSign_any d w;rwa [Int.sign_eq_one_of_pos hd'] at this
 have c2:CR 83 #[.string (itoaB n),.string (itoaB d)] (.string (itoaB ((Nat.gcd n.natAbs d.natAbs:Nat):Int))):=fun w R=>refGcd_any _ _ w R.env hn hdl
 have c3:CR 137 #[.string (itoaB n),.string (itoaB ((Nat.gcd n.natAbs d.natAbs:Nat):Int))] (.tuple #[.string (itoaB (n / ((Nat.gcd n.natAbs d.natAbs:Nat):Int))),.string (itoaB (n % ((Nat.gcd n.natAbs d.natAbs:Nat):Int)))]):=fun w R=>refDivMod_any _ _ w R.env (Nat.le_trans hn (by decide)) (Nat.le_trans (dlen_gcd _ _ _ (by decide) hd hdl) (by decide)) (by have:=gcd_pos_den (n:=n) hd;omega)
 have c4:CR 137 #[.string (itoaB d),.string (itoaB ((Nat.gcd n.natAbs d.natAbs:Nat):Int))] (.tuple #[.string (itoaB (d / ((Nat.gcd n.natAbs d.natAbs:Nat):Int))),.string (itoaB (d % ((Nat.gcd n.natAbs d.natAbs:Nat):Int)))]):=fun w R=>refDivMod_any _ _ w R.env (Nat.le_trans hdl (by decide)) (Nat.le_trans (dlen_gcd _ _ _ (by decide) hd hdl) (by decide)) (by have:=gcd_pos_den (n:=n) hd;omega)
 have z1:9 < ((itoaB n).size:Int):=by omega
 have zc':(itoaB (n / ((Nat.gcd n.natAbs d.natAbs:Nat):Int))).size≤100001:=zc
 have zf':(itoaB (d / ((Nat.gcd n.natAbs d.natAbs:Nat):Int))).size≤100001:=zf
 have h1':((itoaB (d / ((Nat.gcd n.natAbs d.natAbs:Nat):Int))).toList == [49])=false:=h1
 obtain ⟨c,ec⟩:∃ v,itoaB (n / ((Nat.gcd n.natAbs d.natAbs:Nat):Int))=v:=⟨_,rfl⟩
 try simp only [ec] at c1 c2 c3 c4 z1 zc' zf' h1' ⊢
 obtain ⟨f,ef⟩:∃ v,itoaB (d / ((Nat.gcd n.natAbs d.natAbs:Nat):Int))=v:=⟨_,rfl⟩
 try simp only [ef] at c1 c2 c3 c4 z1 zc' zf' h1' ⊢
 obtain ⟨c',ec'⟩:∃ v,itoaB (n % ((Nat.gcd n.natAbs d.natAbs:Nat):Int))=v:=⟨_,rfl⟩
 try simp only [ec'] at c1 c2 c3 c4 z1 zc' zf' h1' ⊢
 obtain ⟨f',ef'⟩:∃ v,itoaB (d % ((Nat.gcd n.natAbs d.natAbs:Nat):Int))=v:=⟨_,rfl⟩
 try simp only [ef'] at c1 c2 c3 c4 z1 zc' zf' h1' ⊢
 obtain ⟨g,eg⟩:∃ v,itoaB ((Nat.gcd n.natAbs d.natAbs:Nat):Int)=v:=⟨_,rfl⟩
 try simp only [eg] at c1 c2 c3 c4 z1 zc' zf' h1' ⊢
 obtain ⟨a,ea⟩:∃ v,itoaB n=v:=⟨_,rfl⟩
 try simp only [ea] at c1 c2 c3 c4 z1 zc' zf' h1' ⊢
 obtain ⟨b,eb⟩:∃ v,itoaB d=v:=⟨_,rfl⟩
 try simp only [eb] at c1 c2 c3 c4 z1 zc' zf' h1' ⊢
 have C1:=Lib.hid c1
 have C2:=Lib.hid c2
 have C3:=Lib.hid c3
 have C4:=Lib.hid c4
 clear c1 c2 c3 c4 ec ef ec' ef' eg ea eb hn hdl hd hn' hdl' hd' hs h1 hcs hfs zc zf
 have hb:=Below.refl w.heap.size w
 go_enter Tryz.func93,Tryz.ntmps93
 go_wp2_with ((first | (go_at_call 134;with_reducible refine (chRA hb R C1).mono ?_) | (go_at_call 83;with_reducible refine (chRA hb R C2).mono ?_) | (go_at_call 137;first | with_reducible refine (chRA hb R C3).mono ?_ | with_reducible refine (chRA hb R C4).mono ?_));clear hb;rintro e w1 ⟨rfl,hb⟩)
 go_ret
 exact ⟨rfl,hb⟩
theorem frac_pb1 (n d:Int) (hn':dlen n≤2000) (hdl':dlen d≤2000) (hd':0 < d) (hs:(itoaB n).size≤9∧9 < (itoaB d).size) (h1:((itoaB (d / ((Nat.gcd n.natAbs d.natAbs:Nat):Int))).toList == [49])=true) (w:World) (R:EnvR w) :
   Calls Tryz.prog 93 #[.string (itoaB n),.string (itoaB d)] w (Ret w (.string (itoaB (n / ((Nat.gcd n.natAbs d.natAbs:Nat):Int))))):=by
 have hd:=hd'
 have hn:=hn'
 have hdl:=hdl'
 have hcs:=dlen_div n (Nat.gcd n.natAbs d.natAbs) 2000 (by decide) hn (gcd_dvd1 _ _)
 have hfs:=dlen_div d (Nat.gcd n.natAbs d.natAbs) 2000 (by decide) hdl (gcd_dvd2 _ _)
 have zc:=itoaB_size _ (Nat.le_trans hcs (by decide))
 have zf:=itoaB_size _ (Nat.le_trans hfs (by decide))
 have c1:CR 134 #[.string (itoaB d)] (.int .i64 1):=fun w R=>by have:=refSign_any d w;rwa [Int.sign_eq_one_of_pos hd'] at this
 have c2:CR 83 #[.string (itoaB n),.string (itoaB d)] (.string (itoaB ((Nat.gcd n.natAbs d.natAbs:Nat):Int))):=fun w R=>refGcd_any _ _ w R.env hn hdl
 have c3:CR 137 #[.string (itoaB n),.string (itoaB ((Nat.gcd n.natAbs d.natAbs:Nat):Int))] (.tuple #[.string (itoaB (n / ((Nat.gcd n.natAbs d.natAbs:Nat):Int))),.string (itoaB (n % ((Nat.gcd n.natAbs d.natAbs:Nat):Int)))]):=fun w R=>refDivMod_any _ _ w R.env (Nat.le_trans hn (by decide)) (Nat.le_trans (dlen_gcd _ _ _ (by decide) hd hdl) (by decide)) (by have:=gcd_pos_den (n:=n) hd;omega)
 have c4:CR 137 #[.string (itoaB d),.string (itoaB ((Nat.gcd n.natAbs d.natAbs:Nat):Int))] (.tuple #[.string (itoaB (d / ((Nat.gcd n.natAbs d.natAbs:Nat):Int))),.string (itoaB (d % ((Nat.gcd n.natAbs d.natAbs:Nat):Int)))]):=fun w R=>refDivMod_any _ _ w R.env (Nat.le_trans hdl (by decide)) (Nat.le_trans (dlen_gcd _ _ _ (by decide) hd hdl) (by decide)) (by have:=gcd_pos_den (n:=n) hd;omega)
 have z1:((itoaB n).size:Int)≤9:=by omega
 have z2:9 < ((itoaB d).size:Int):=by omega
 have zc':(itoaB (n / ((Nat.gcd n.natAbs d.natAbs:Nat):Int))).size≤100001:=zc
 have zf':(itoaB (d / ((Nat.gcd n.natAbs d.natAbs:Nat):Int))).size≤100001:=zf
 have h1':((itoaB (d / ((Nat.gcd n.natAbs d.natAbs:Nat):Int))).toList == [49])=true:=h1
 obtain ⟨c,ec⟩:∃ v,itoaB (n / ((Nat.gcd n.natAbs d.natAbs:Nat):Int))=v:=⟨_,rfl⟩
 try simp only [ec] at c1 c2 c3 c4 z1 z2 zc' zf' h1' ⊢
 obtain ⟨f,ef⟩:∃ v,itoaB (d / ((Nat.gcd n.natAbs d.natAbs:Nat):Int))=v:=⟨_,rfl⟩
 try simp only [ef] at c1 c2 c3 c4 z1 z2 zc' zf' h1' ⊢
 obtain ⟨c',ec'⟩:∃ v,itoaB (n % ((Nat.gcd n.natAbs d.natAbs:Nat):Int))=v:=⟨_,rfl⟩
 try simp only [ec'] at c1 c2 c3 c4 z1 z2 zc' zf' h1' ⊢
 obtain ⟨f',ef'⟩:∃ v,itoaB (d % ((Nat.gcd n.natAbs d.natAbs:Nat):Int))=v:=⟨_,rfl⟩
 try simp only [ef'] at c1 c2 c3 c4 z1 z2 zc' zf' h1' ⊢
 obtain ⟨g,eg⟩:∃ v,itoaB ((Nat.gcd n.natAbs d.natAbs:Nat):Int)=v:=⟨_,rfl⟩
 try simp only [eg] at c1 c2 c3 c4 z1 z2 zc' zf' h1' ⊢
 obtain ⟨a,ea⟩:∃ v,itoaB n=v:=⟨_,rfl⟩
 try simp only [ea] at c1 c2 c3 c4 z1 z2 zc' zf' h1' ⊢
 obtain ⟨b,eb⟩:∃ v,itoaB d=v:=⟨_,rfl⟩
 try simp only [eb] at c1 c2 c3 c4 z1 z2 zc' zf' h1' ⊢
 have C1:=Lib.hid c1
 have C2:=Lib.hid c2
 have C3:=Lib.hid c3
 have C4:=Lib.hid c4
 clear c1 c2 c3 c4 ec ef ec' ef' eg ea eb hn hdl hd hn' hdl' hd' hs h1 hcs hfs zc zf
 have hb:=Below.refl w.heap.size w
 go_enter Tryz.func93,Tryz.ntmps93
 go_wp2_with ((first | (go_at_call 134;with_reducible refine (chRA hb R C1).mono ?_) | (go_at_call 83;with_reducible refine (chRA hb R C2).mono ?_) | (go_at_call 137;first | with_reducible refine (chRA hb R C3).mono ?_ | with_reducible refine (chRA hb R C4).mono ?_));clear hb;rintro e w1 ⟨rfl,hb⟩)
 go_ret
 exact ⟨rfl,hb⟩
theorem frac_pb2 (n d:Int) (hn':dlen n≤2000) (hdl':dlen d≤2000) (hd':0 < d) (hs:(itoaB n).size≤9∧9 < (itoaB d).size) (h1:((itoaB (d / ((Nat.gcd n.natAbs d.natAbs:Nat):Int))).toList == [49])=false) (w:World) (R:EnvR w) :
   Calls Tryz.prog 93 #[.string (itoaB n),.string (itoaB d)] w (Ret w (.string (itoaB (n / ((Nat.gcd n.natAbs d.natAbs:Nat):Int)) ++ ⟨#[47]⟩ ++ itoaB (d / ((Nat.gcd n.natAbs d.natAbs:Nat):Int))))):=by
 have hd:=hd'
 have hn:=hn'
 have hdl:=hdl'
 have hcs:=dlen_div n (Nat.gcd n.natAbs d.natAbs) 2000 (by decide) hn (gcd_dvd1 _ _)
 have hfs:=dlen_div d (Nat.gcd n.natAbs d.natAbs) 2000 (by decide) hdl (gcd_dvd2 _ _)
 have zc:=itoaB_size _ (Nat.le_trans hcs (by decide))
 have zf:=itoaB_size _ (Nat.le_trans hfs (by decide))
 have c1:CR 134 #[.string (itoaB d)] (.int .i64 1):=fun w R=>by have:=refSign_any d w;rwa [Int.sign_eq_one_of_pos hd'] at this
 have c2:CR 83 #[.string (itoaB n),.string (itoaB d)] (.string (itoaB ((Nat.gcd n.natAbs d.natAbs:Nat):Int))):=fun w R=>refGcd_any _ _ w R.env hn hdl
 have c3:CR 137 #[.string (itoaB n),.string (itoaB ((Nat.gcd n.natAbs d.natAbs:Nat):Int))] (.tuple #[.string (itoaB (n / ((Nat.gcd n.natAbs d.natAbs:Nat):Int))),.string (itoaB (n % ((Nat.gcd n.natAbs d.natAbs:Nat):Int)))]):=fun w R=>refDivMod_any _ _ w R.env (Nat.le_trans hn (by decide)) (Nat.le_trans (dlen_gcd _ _ _ (by decide) hd hdl) (by decide)) (by have:=gcd_pos_den (n:=n) hd;omega)
 have c4:CR 137 #[.string (itoaB d),.string (itoaB ((Nat.gcd n.natAbs d.natAbs:Nat):Int))] (.tuple #[.string (itoaB (d / ((Nat.gcd n.natAbs d.natAbs:Nat):Int))),.string (itoaB (d % ((Nat.gcd n.natAbs d.natAbs:Nat):Int)))]):=fun w R=>refDivMod_any _ _ w R.env (Nat.le_trans hdl (by decide)) (Nat.le_trans (dlen_gcd _ _ _ (by decide) hd hdl) (by decide)) (by have:=gcd_pos_den (n:=n) hd;omega)
 have z1:((itoaB n).size:Int)≤9:=by omega
 have z2:9 < ((itoaB d).size:Int):=by omega
 have zc':(itoaB (n / ((Nat.gcd n.natAbs d.natAbs:Nat):Int))).size≤100001:=zc
 have zf':(itoaB (d / ((Nat.gcd n.natAbs d.natAbs:Nat):Int))).size≤100001:=zf
 have h1':((itoaB (d / ((Nat.gcd n.natAbs d.natAbs:Nat):Int))).toList == [49])=false:=h1
 obtain ⟨c,ec⟩:∃ v,itoaB (n / ((Nat.gcd n.natAbs d.natAbs:Nat):Int))=v:=⟨_,rfl⟩
 try simp only [ec] at c1 c2 c3 c4 z1 z2 zc' zf' h1' ⊢
 obtain ⟨f,ef⟩:∃ v,itoaB (d / ((Nat.gcd n.natAbs d.natAbs:Nat):Int))=v:=⟨_,rfl⟩
 try simp only [ef] at c1 c2 c3 c4 z1 z2 zc' zf' h1' ⊢
 obtain ⟨c',ec'⟩:∃ v,itoaB (n % ((Nat.gcd n.natAbs d.natAbs:Nat):Int))=v:=⟨_,rfl⟩
 try simp only [ec'] at c1 c2 c3 c4 z1 z2 zc' zf' h1' ⊢
 obtain ⟨f',ef'⟩:∃ v,itoaB (d % ((Nat.gcd n.natAbs d.natAbs:Nat):Int))=v:=⟨_,rfl⟩
 try simp only [ef'] at c1 c2 c3 c4 z1 z2 zc' zf' h1' ⊢
 obtain ⟨g,eg⟩:∃ v,itoaB ((Nat.gcd n.natAbs d.natAbs:Nat):Int)=v:=⟨_,rfl⟩
 try simp only [eg] at c1 c2 c3 c4 z1 z2 zc' zf' h1' ⊢
 obtain ⟨a,ea⟩:∃ v,itoaB n=v:=⟨_,rfl⟩
 try simp only [ea] at c1 c2 c3 c4 z1 z2 zc' zf' h1' ⊢
 obtain ⟨b,eb⟩:∃ v,itoaB d=v:=⟨_,rfl⟩
 try simp only [eb] at c1 c2 c3 c4 z1 z2 zc' zf' h1' ⊢
 have C1:=Lib.hid c1
 have C2:=Lib.hid c2
 have C3:=Lib.hid c3
 have C4:=Lib.hid c4
 clear c1 c2 c3 c4 ec ef ec' ef' eg ea eb hn hdl hd hn' hdl' hd' hs h1 hcs hfs zc zf
 have hb:=Below.refl w.heap.size w
 go_enter Tryz.func93,Tryz.ntmps93
 go_wp2_with ((first | (go_at_call 134;with_reducible refine (chRA hb R C1).mono ?_) | (go_at_call 83;with_reducible refine (chRA hb R C2).mono ?_) | (go_at_call 137;first | with_reducible refine (chRA hb R C3).mono ?_ | with_reducible refine (chRA hb R C4).mono ?_));clear hb;rintro e w1 ⟨rfl,hb⟩)
 go_ret
 exact ⟨rfl,hb⟩
theorem frac_ma1 (n d:Int) (hn':dlen n≤2000) (hdl':dlen d≤2000) (hd':d < 0) (hs:9 < (itoaB n).size) (h1:((itoaB ((-d) / ((Nat.gcd (-n).natAbs (-d).natAbs:Nat):Int))).toList == [49])=true) (w:World) (R:EnvR w) :
   Calls Tryz.prog 93 #[.string (itoaB n),.string (itoaB d)] w (Ret w (.string (itoaB ((-n) / ((Nat.gcd (-n).natAbs (-d).natAbs:Nat):Int))))):=by
 have hd:0 < -d:=by omega
 have hn:dlen (-n)≤2000:=by rw [dlen_neg];exact hn'
 have hdl:dlen (-d)≤2000:=by rw [dlen_neg];exact hdl'
 have hcs:=dlen_div (-n) (Nat.gcd (-n).natAbs (-d).natAbs) 2000 (by decide) hn (gcd_dvd1 _ _)
 have hfs:=dlen_div (-d) (Nat.gcd (-n).natAbs (-d).natAbs) 2000 (by decide) hdl (gcd_dvd2 _ _)
 have zc:=itoaB_size _ (Nat.le_trans hcs (by decide))
 have zf:=itoaB_size _ (Nat.le_trans hfs (by decide))
 have c1:CR 134 #[.string (itoaB d)] (.int .i64 (-1)):=fun w R=>by have:=refSign_any d w;rwa [Int.sign_eq_neg_one_of_neg hd'] at this
 have c2:=fun (w:World) (R:EnvR w)=>refNeg_any n w (Nat.le_trans hn' (by decide))
 have c3:=fun (w:World) (R:EnvR w)=>refNeg_any d w (Nat.le_trans hdl' (by decide))
 have c4:CR 83 #[.string (itoaB (-n)),.string (itoaB (-d))] (.string (itoaB ((Nat.gcd (-n).natAbs (-d).natAbs:Nat):Int))):=fun w R=>refGcd_any _ _ w R.env hn hdl
 have c5:CR 137 #[.string (itoaB (-n)),.string (itoaB ((Nat.gcd (-n).natAbs (-d).natAbs:Nat):Int))] (.tuple #[.string (itoaB ((-n) / ((Nat.gcd (-n).natAbs (-d).natAbs:Nat):Int))),.string (itoaB ((-n) % ((Nat.gcd (-n).natAbs (-d).natAbs:Nat):Int)))]):=fun w R=>refDivMod_any _ _ w R.env (Nat.le_trans hn (by decide)) (Nat.le_trans (dlen_gcd _ _ _ (by decide) hd hdl) (by decide)) (by have:=gcd_pos_den (n:=(-n)) hd;omega)
 have c6:CR 137 #[.string (itoaB (-d)),.string (itoaB ((Nat.gcd (-n).natAbs (-d).natAbs:Nat):Int))] (.tuple #[.string (itoaB ((-d) / ((Nat.gcd (-n).natAbs (-d).natAbs:Nat):Int))),.string (itoaB ((-d) % ((Nat.gcd (-n).natAbs (-d).natAbs:Nat):Int)))]):=fun w R=>refDivMod_any _ _ w R.env (Nat.le_trans hdl (by decide)) (Nat.le_trans (dlen_gcd _ _ _ (by decide) hd hdl) (by decide)) (by have:=gcd_pos_den (n:=(-n)) hd;omega)
 have z1:9 < ((itoaB n).size:Int):=by omega
 have zc':(itoaB ((-n) / ((Nat.gcd (-n).natAbs (-d).natAbs:Nat):Int))).size≤100001:=zc
 have zf':(itoaB ((-d) / ((Nat.gcd (-n).natAbs (-d).natAbs:Nat):Int))).size≤100001:=zf
 have h1':((itoaB ((-d) / ((Nat.gcd (-n).natAbs (-d).natAbs:Nat):Int))).toList == [49])=true:=h1
 obtain ⟨c,ec⟩:∃ v,itoaB ((-n) / ((Nat.gcd (-n).natAbs (-d).natAbs:Nat):Int))=v:=⟨_,rfl⟩
 try simp only [ec] at c1 c2 c3 c4 c5 c6 z1 zc' zf' h1' ⊢
 obtain ⟨f,ef⟩:∃ v,itoaB ((-d) / ((Nat.gcd (-n).natAbs (-d).natAbs:Nat):Int))=v:=⟨_,rfl⟩
 try simp only [ef] at c1 c2 c3 c4 c5 c6 z1 zc' zf' h1' ⊢
 obtain ⟨c',ec'⟩:∃ v,itoaB ((-n) % ((Nat.gcd (-n).natAbs (-d).natAbs:Nat):Int))=v:=⟨_,rfl⟩
 try simp only [ec'] at c1 c2 c3 c4 c5 c6 z1 zc' zf' h1' ⊢
 obtain ⟨f',ef'⟩:∃ v,itoaB ((-d) % ((Nat.gcd (-n).natAbs (-d).natAbs:Nat):Int))=v:=⟨_,rfl⟩
 try simp only [ef'] at c1 c2 c3 c4 c5 c6 z1 zc' zf' h1' ⊢
 obtain ⟨g,eg⟩:∃ v,itoaB ((Nat.gcd (-n).natAbs (-d).natAbs:Nat):Int)=v:=⟨_,rfl⟩
 try simp only [eg] at c1 c2 c3 c4 c5 c6 z1 zc' zf' h1' ⊢
 obtain ⟨u,eu⟩:∃ v,itoaB (-n)=v:=⟨_,rfl⟩
 try simp only [eu] at c1 c2 c3 c4 c5 c6 z1 zc' zf' h1' ⊢
 obtain ⟨v,ev⟩:∃ v,itoaB (-d)=v:=⟨_,rfl⟩
 try simp only [ev] at c1 c2 c3 c4 c5 c6 z1 zc' zf' h1' ⊢
 obtain ⟨a,ea⟩:∃ v,itoaB n=v:=⟨_,rfl⟩
 try simp only [ea] at c1 c2 c3 c4 c5 c6 z1 zc' zf' h1' ⊢
 obtain ⟨b,eb⟩:∃ v,itoaB d=v:=⟨_,rfl⟩
 try simp only [eb] at c1 c2 c3 c4 c5 c6 z1 zc' zf' h1' ⊢
 have C1:=Lib.hid c1
 have C2:=Lib.hid c2
 have C3:=Lib.hid c3
 have C4:=Lib.hid c4
 have C5:=Lib.hid c5
 have C6:=Lib.hid c6
 clear c1 c2 c3 c4 c5 c6 ec ef ec' ef' eg eu ev ea eb hn hdl hd hn' hdl' hd' hs h1 hcs hfs zc zf
 have hb:=Below.refl w.heap.size w
 go_enter Tryz.func93,Tryz.ntmps93
 go_wp2_with ((first | (go_at_call 134;with_reducible refine (chRA hb R C1).mono ?_) | (go_at_call 157;first | with_reducible refine (chRA hb R C2).mono ?_ | with_reducible refine (chRA hb R C3).mono ?_) | (go_at_call 83;with_reducible refine (chRA hb R C4).mono ?_) | (go_at_call 137;first | with_reducible refine (chRA hb R C5).mono ?_ | with_reducible refine (chRA hb R C6).mono ?_));clear hb;rintro e w1 ⟨rfl,hb⟩)
 go_ret
 exact ⟨rfl,hb⟩
theorem frac_ma2 (n d:Int) (hn':dlen n≤2000) (hdl':dlen d≤2000) (hd':d < 0) (hs:9 < (itoaB n).size) (h1:((itoaB ((-d) / ((Nat.gcd (-n).natAbs (-d).natAbs:Nat):Int))).toList == [49])=false) (w:World) (R:EnvR w) :
   Calls Tryz.prog 93 #[.string (itoaB n),.string (itoaB d)] w (Ret w (.string (itoaB ((-n) / ((Nat.gcd (-n).natAbs (-d).natAbs:Nat):Int)) ++ ⟨#[47]⟩ ++ itoaB ((-d) / ((Nat.gcd (-n).natAbs (-d).natAbs:Nat):Int))))):=by
 have hd:0 < -d:=by omega
 have hn:dlen (-n)≤2000:=by rw [dlen_neg];exact hn'
 have hdl:dlen (-d)≤2000:=by rw [dlen_neg];exact hdl'
 have hcs:=dlen_div (-n) (Nat.gcd (-n).natAbs (-d).natAbs) 2000 (by decide) hn (gcd_dvd1 _ _)
 have hfs:=dlen_div (-d) (Nat.gcd (-n).natAbs (-d).natAbs) 2000 (by decide) hdl (gcd_dvd2 _ _)
 have zc:=itoaB_size _ (Nat.le_trans hcs (by decide))
 have zf:=itoaB_size _ (Nat.le_trans hfs (by decide))
 have c1:CR 134 #[.string (itoaB d)] (.int .i64 (-1)):=fun w R=>by have:=refSign_any d w;rwa [Int.sign_eq_neg_one_of_neg hd'] at this
 have c2:=fun (w:World) (R:EnvR w)=>refNeg_any n w (Nat.le_trans hn' (by decide))
 have c3:=fun (w:World) (R:EnvR w)=>refNeg_any d w (Nat.le_trans hdl' (by decide))
 have c4:CR 83 #[.string (itoaB (-n)),.string (itoaB (-d))] (.string (itoaB ((Nat.gcd (-n).natAbs (-d).natAbs:Nat):Int))):=fun w R=>refGcd_any _ _ w R.env hn hdl
 have c5:CR 137 #[.string (itoaB (-n)),.string (itoaB ((Nat.gcd (-n).natAbs (-d).natAbs:Nat):Int))] (.tuple #[.string (itoaB ((-n) / ((Nat.gcd (-n).natAbs (-d).natAbs:Nat):Int))),.string (itoaB ((-n) % ((Nat.gcd (-n).natAbs (-d).natAbs:Nat):Int)))]):=fun w R=>refDivMod_any _ _ w R.env (Nat.le_trans hn (by decide)) (Nat.le_trans (dlen_gcd _ _ _ (by decide) hd hdl) (by decide)) (by have:=gcd_pos_den (n:=(-n)) hd;omega)
 have c6:CR 137 #[.string (itoaB (-d)),.string (itoaB ((Nat.gcd (-n).natAbs (-d).natAbs:Nat):Int))] (.tuple #[.string (itoaB ((-d) / ((Nat.gcd (-n).natAbs (-d).natAbs:Nat):Int))),.string (itoaB ((-d) % ((Nat.gcd (-n).natAbs (-d).natAbs:Nat):Int)))]):=fun w R=>refDivMod_any _ _ w R.env (Nat.le_trans hdl (by decide)) (Nat.le_trans (dlen_gcd _ _ _ (by decide) hd hdl) (by decide)) (by have:=gcd_pos_den (n:=(-n)) hd;omega)
 have z1:9 < ((itoaB n).size:Int):=by omega
 have zc':(itoaB ((-n) / ((Nat.gcd (-n).natAbs (-d).natAbs:Nat):Int))).size≤100001:=zc
 have zf':(itoaB ((-d) / ((Nat.gcd (-n).natAbs (-d).natAbs:Nat):Int))).size≤100001:=zf
 have h1':((itoaB ((-d) / ((Nat.gcd (-n).natAbs (-d).natAbs:Nat):Int))).toList == [49])=false:=h1
 obtain ⟨c,ec⟩:∃ v,itoaB ((-n) / ((Nat.gcd (-n).natAbs (-d).natAbs:Nat):Int))=v:=⟨_,rfl⟩
 try simp only [ec] at c1 c2 c3 c4 c5 c6 z1 zc' zf' h1' ⊢
 obtain ⟨f,ef⟩:∃ v,itoaB ((-d) / ((Nat.gcd (-n).natAbs (-d).natAbs:Nat):Int))=v:=⟨_,rfl⟩
 try simp only [ef] at c1 c2 c3 c4 c5 c6 z1 zc' zf' h1' ⊢
 obtain ⟨c',ec'⟩:∃ v,itoaB ((-n) % ((Nat.gcd (-n).natAbs (-d).natAbs:Nat):Int))=v:=⟨_,rfl⟩
 try simp only [ec'] at c1 c2 c3 c4 c5 c6 z1 zc' zf' h1' ⊢
 obtain ⟨f',ef'⟩:∃ v,itoaB ((-d) % ((Nat.gcd (-n).natAbs (-d).natAbs:Nat):Int))=v:=⟨_,rfl⟩
 try simp only [ef'] at c1 c2 c3 c4 c5 c6 z1 zc' zf' h1' ⊢
 obtain ⟨g,eg⟩:∃ v,itoaB ((Nat.gcd (-n).natAbs (-d).natAbs:Nat):Int)=v:=⟨_,rfl⟩
 try simp only [eg] at c1 c2 c3 c4 c5 c6 z1 zc' zf' h1' ⊢
 obtain ⟨u,eu⟩:∃ v,itoaB (-n)=v:=⟨_,rfl⟩
 try simp only [eu] at c1 c2 c3 c4 c5 c6 z1 zc' zf' h1' ⊢
 obtain ⟨v,ev⟩:∃ v,itoaB (-d)=v:=⟨_,rfl⟩
 try simp only [ev] at c1 c2 c3 c4 c5 c6 z1 zc' zf' h1' ⊢
 obtain ⟨a,ea⟩:∃ v,itoaB n=v:=⟨_,rfl⟩
 try simp only [ea] at c1 c2 c3 c4 c5 c6 z1 zc' zf' h1' ⊢
 obtain ⟨b,eb⟩:∃ v,itoaB d=v:=⟨_,rfl⟩
 try simp only [eb] at c1 c2 c3 c4 c5 c6 z1 zc' zf' h1' ⊢
 have C1:=Lib.hid c1
 have C2:=Lib.hid c2
 have C3:=Lib.hid c3
 have C4:=Lib.hid c4
 have C5:=Lib.hid c5
 have C6:=Lib.hid c6
 clear c1 c2 c3 c4 c5 c6 ec ef ec' ef' eg eu ev ea eb hn hdl hd hn' hdl' hd' hs h1 hcs hfs zc zf
 have hb:=Below.refl w.heap.size w
 go_enter Tryz.func93,Tryz.ntmps93
 go_wp2_with ((first | (go_at_call 134;with_reducible refine (chRA hb R C1).mono ?_) | (go_at_call 157;first | with_reducible refine (chRA hb R C2).mono ?_ | with_reducible refine (chRA hb R C3).mono ?_) | (go_at_call 83;with_reducible refine (chRA hb R C4).mono ?_) | (go_at_call 137;first | with_reducible refine (chRA hb R C5).mono ?_ | with_reducible refine (chRA hb R C6).mono ?_));clear hb;rintro e w1 ⟨rfl,hb⟩)
 go_ret
 exact ⟨rfl,hb⟩
theorem frac_mb1 (n d:Int) (hn':dlen n≤2000) (hdl':dlen d≤2000) (hd':d < 0) (hs:(itoaB n).size≤9∧9 < (itoaB d).size) (h1:((itoaB ((-d) / ((Nat.gcd (-n).natAbs (-d).natAbs:Nat):Int))).toList == [49])=true) (w:World) (R:EnvR w) :
   Calls Tryz.prog 93 #[.string (itoaB n),.string (itoaB d)] w (Ret w (.string (itoaB ((-n) / ((Nat.gcd (-n).natAbs (-d).natAbs:Nat):Int))))):=by
 have hd:0 < -d:=by omega
 have hn:dlen (-n)≤2000:=by rw [dlen_neg];exact hn'
 have hdl:dlen (-d)≤2000:=by rw [dlen_neg];exact hdl'
 have hcs:=dlen_div (-n) (Nat.gcd (-n).natAbs (-d).natAbs) 2000 (by decide) hn (gcd_dvd1 _ _)
 have hfs:=dlen_div (-d) (Nat.gcd (-n).natAbs (-d).natAbs) 2000 (by decide) hdl (gcd_dvd2 _ _)
 have zc:=itoaB_size _ (Nat.le_trans hcs (by decide))
 have zf:=itoaB_size _ (Nat.le_trans hfs (by decide))
 have c1:CR 134 #[.string (itoaB d)] (.int .i64 (-1)):=fun w R=>by have:=refSign_any d w;rwa [Int.sign_eq_neg_one_of_neg hd'] at this
 have c2:=fun (w:World) (R:EnvR w)=>refNeg_any n w (Nat.le_trans hn' (by decide))
 have c3:=fun (w:World) (R:EnvR w)=>refNeg_any d w (Nat.le_trans hdl' (by decide))
 have c4:CR 83 #[.string (itoaB (-n)),.string (itoaB (-d))] (.string (itoaB ((Nat.gcd (-n).natAbs (-d).natAbs:Nat):Int))):=fun w R=>refGcd_any _ _ w R.env hn hdl
 have c5:CR 137 #[.string (itoaB (-n)),.string (itoaB ((Nat.gcd (-n).natAbs (-d).natAbs:Nat):Int))] (.tuple #[.string (itoaB ((-n) / ((Nat.gcd (-n).natAbs (-d).natAbs:Nat):Int))),.string (itoaB ((-n) % ((Nat.gcd (-n).natAbs (-d).natAbs:Nat):Int)))]):=fun w R=>refDivMod_any _ _ w R.env (Nat.le_trans hn (by decide)) (Nat.le_trans (dlen_gcd _ _ _ (by decide) hd hdl) (by decide)) (by have:=gcd_pos_den (n:=(-n)) hd;omega)
 have c6:CR 137 #[.string (itoaB (-d)),.string (itoaB ((Nat.gcd (-n).natAbs (-d).natAbs:Nat):Int))] (.tuple #[.string (itoaB ((-d) / ((Nat.gcd (-n).natAbs (-d).natAbs:Nat):Int))),.string (itoaB ((-d) % ((Nat.gcd (-n).natAbs (-d).natAbs:Nat):Int)))]):=fun w R=>refDivMod_any _ _ w R.env (Nat.le_trans hdl (by decide)) (Nat.le_trans (dlen_gcd _ _ _ (by decide) hd hdl) (by decide)) (by have:=gcd_pos_den (n:=(-n)) hd;omega)
 have z1:((itoaB n).size:Int)≤9:=by omega
 have z2:9 < ((itoaB d).size:Int):=by omega
 have zc':(itoaB ((-n) / ((Nat.gcd (-n).natAbs (-d).natAbs:Nat):Int))).size≤100001:=zc
 have zf':(itoaB ((-d) / ((Nat.gcd (-n).natAbs (-d).natAbs:Nat):Int))).size≤100001:=zf
 have h1':((itoaB ((-d) / ((Nat.gcd (-n).natAbs (-d).natAbs:Nat):Int))).toList == [49])=true:=h1
 obtain ⟨c,ec⟩:∃ v,itoaB ((-n) / ((Nat.gcd (-n).natAbs (-d).natAbs:Nat):Int))=v:=⟨_,rfl⟩
 try simp only [ec] at c1 c2 c3 c4 c5 c6 z1 z2 zc' zf' h1' ⊢
 obtain ⟨f,ef⟩:∃ v,itoaB ((-d) / ((Nat.gcd (-n).natAbs (-d).natAbs:Nat):Int))=v:=⟨_,rfl⟩
 try simp only [ef] at c1 c2 c3 c4 c5 c6 z1 z2 zc' zf' h1' ⊢
 obtain ⟨c',ec'⟩:∃ v,itoaB ((-n) % ((Nat.gcd (-n).natAbs (-d).natAbs:Nat):Int))=v:=⟨_,rfl⟩
 try simp only [ec'] at c1 c2 c3 c4 c5 c6 z1 z2 zc' zf' h1' ⊢
 obtain ⟨f',ef'⟩:∃ v,itoaB ((-d) % ((Nat.gcd (-n).natAbs (-d).natAbs:Nat):Int))=v:=⟨_,rfl⟩
 try simp only [ef'] at c1 c2 c3 c4 c5 c6 z1 z2 zc' zf' h1' ⊢
 obtain ⟨g,eg⟩:∃ v,itoaB ((Nat.gcd (-n).natAbs (-d).natAbs:Nat):Int)=v:=⟨_,rfl⟩
 try simp only [eg] at c1 c2 c3 c4 c5 c6 z1 z2 zc' zf' h1' ⊢
 obtain ⟨u,eu⟩:∃ v,itoaB (-n)=v:=⟨_,rfl⟩
 try simp only [eu] at c1 c2 c3 c4 c5 c6 z1 z2 zc' zf' h1' ⊢
 obtain ⟨v,ev⟩:∃ v,itoaB (-d)=v:=⟨_,rfl⟩
 try simp only [ev] at c1 c2 c3 c4 c5 c6 z1 z2 zc' zf' h1' ⊢
 obtain ⟨a,ea⟩:∃ v,itoaB n=v:=⟨_,rfl⟩
 try simp only [ea] at c1 c2 c3 c4 c5 c6 z1 z2 zc' zf' h1' ⊢
 obtain ⟨b,eb⟩:∃ v,itoaB d=v:=⟨_,rfl⟩
 try simp only [eb] at c1 c2 c3 c4 c5 c6 z1 z2 zc' zf' h1' ⊢
 have C1:=Lib.hid c1
 have C2:=Lib.hid c2
 have C3:=Lib.hid c3
 have C4:=Lib.hid c4
 have C5:=Lib.hid c5
 have C6:=Lib.hid c6
 clear c1 c2 c3 c4 c5 c6 ec ef ec' ef' eg eu ev ea eb hn hdl hd hn' hdl' hd' hs h1 hcs hfs zc zf
 have hb:=Below.refl w.heap.size w
 go_enter Tryz.func93,Tryz.ntmps93
 go_wp2_with ((first | (go_at_call 134;with_reducible refine (chRA hb R C1).mono ?_) | (go_at_call 157;first | with_reducible refine (chRA hb R C2).mono ?_ | with_reducible refine (chRA hb R C3).mono ?_) | (go_at_call 83;with_reducible refine (chRA hb R C4).mono ?_) | (go_at_call 137;first | with_reducible refine (chRA hb R C5).mono ?_ | with_reducible refine (chRA hb R C6).mono ?_));clear hb;rintro e w1 ⟨rfl,hb⟩)
 go_ret
 exact ⟨rfl,hb⟩
theorem frac_mb2 (n d:Int) (hn':dlen n≤2000) (hdl':dlen d≤2000) (hd':d < 0) (hs:(itoaB n).size≤9∧9 < (itoaB d).size) (h1:((itoaB ((-d) / ((Nat.gcd (-n).natAbs (-d).natAbs:Nat):Int))).toList == [49])=false) (w:World) (R:EnvR w) :
   Calls Tryz.prog 93 #[.string (itoaB n),.string (itoaB d)] w (Ret w (.string (itoaB ((-n) / ((Nat.gcd (-n).natAbs (-d).natAbs:Nat):Int)) ++ ⟨#[47]⟩ ++ itoaB ((-d) / ((Nat.gcd (-n).natAbs (-d).natAbs:Nat):Int))))):=by
 have hd:0 < -d:=by omega
 have hn:dlen (-n)≤2000:=by rw [dlen_neg];exact hn'
 have hdl:dlen (-d)≤2000:=by rw [dlen_neg];exact hdl'
 have hcs:=dlen_div (-n) (Nat.gcd (-n).natAbs (-d).natAbs) 2000 (by decide) hn (gcd_dvd1 _ _)
 have hfs:=dlen_div (-d) (Nat.gcd (-n).natAbs (-d).natAbs) 2000 (by decide) hdl (gcd_dvd2 _ _)
 have zc:=itoaB_size _ (Nat.le_trans hcs (by decide))
 have zf:=itoaB_size _ (Nat.le_trans hfs (by decide))
 have c1:CR 134 #[.string (itoaB d)] (.int .i64 (-1)):=fun w R=>by have:=refSign_any d w;rwa [Int.sign_eq_neg_one_of_neg hd'] at this
 have c2:=fun (w:World) (R:EnvR w)=>refNeg_any n w (Nat.le_trans hn' (by decide))
 have c3:=fun (w:World) (R:EnvR w)=>refNeg_any d w (Nat.le_trans hdl' (by decide))
 have c4:CR 83 #[.string (itoaB (-n)),.string (itoaB (-d))] (.string (itoaB ((Nat.gcd (-n).natAbs (-d).natAbs:Nat):Int))):=fun w R=>refGcd_any _ _ w R.env hn hdl
 have c5:CR 137 #[.string (itoaB (-n)),.string (itoaB ((Nat.gcd (-n).natAbs (-d).natAbs:Nat):Int))] (.tuple #[.string (itoaB ((-n) / ((Nat.gcd (-n).natAbs (-d).natAbs:Nat):Int))),.string (itoaB ((-n) % ((Nat.gcd (-n).natAbs (-d).natAbs:Nat):Int)))]):=fun w R=>refDivMod_any _ _ w R.env (Nat.le_trans hn (by decide)) (Nat.le_trans (dlen_gcd _ _ _ (by decide) hd hdl) (by decide)) (by have:=gcd_pos_den (n:=(-n)) hd;omega)
 have c6:CR 137 #[.string (itoaB (-d)),.string (itoaB ((Nat.gcd (-n).natAbs (-d).natAbs:Nat):Int))] (.tuple #[.string (itoaB ((-d) / ((Nat.gcd (-n).natAbs (-d).natAbs:Nat):Int))),.string (itoaB ((-d) % ((Nat.gcd (-n).natAbs (-d).natAbs:Nat):Int)))]):=fun w R=>refDivMod_any _ _ w R.env (Nat.le_trans hdl (by decide)) (Nat.le_trans (dlen_gcd _ _ _ (by decide) hd hdl) (by decide)) (by have:=gcd_pos_den (n:=(-n)) hd;omega)
 have z1:((itoaB n).size:Int)≤9:=by omega
 have z2:9 < ((itoaB d).size:Int):=by omega
 have zc':(itoaB ((-n) / ((Nat.gcd (-n).natAbs (-d).natAbs:Nat):Int))).size≤100001:=zc
 have zf':(itoaB ((-d) / ((Nat.gcd (-n).natAbs (-d).natAbs:Nat):Int))).size≤100001:=zf
 have h1':((itoaB ((-d) / ((Nat.gcd (-n).natAbs (-d).natAbs:Nat):Int))).toList == [49])=false:=h1
 obtain ⟨c,ec⟩:∃ v,itoaB ((-n) / ((Nat.gcd (-n).natAbs (-d).natAbs:Nat):Int))=v:=⟨_,rfl⟩
 try simp only [ec] at c1 c2 c3 c4 c5 c6 z1 z2 zc' zf' h1' ⊢
 obtain ⟨f,ef⟩:∃ v,itoaB ((-d) / ((Nat.gcd (-n).natAbs (-d).natAbs:Nat):Int))=v:=⟨_,rfl⟩
 try simp only [ef] at c1 c2 c3 c4 c5 c6 z1 z2 zc' zf' h1' ⊢
 obtain ⟨c',ec'⟩:∃ v,itoaB ((-n) % ((Nat.gcd (-n).natAbs (-d).natAbs:Nat):Int))=v:=⟨_,rfl⟩
 try simp only [ec'] at c1 c2 c3 c4 c5 c6 z1 z2 zc' zf' h1' ⊢
 obtain ⟨f',ef'⟩:∃ v,itoaB ((-d) % ((Nat.gcd (-n).natAbs (-d).natAbs:Nat):Int))=v:=⟨_,rfl⟩
 try simp only [ef'] at c1 c2 c3 c4 c5 c6 z1 z2 zc' zf' h1' ⊢
 obtain ⟨g,eg⟩:∃ v,itoaB ((Nat.gcd (-n).natAbs (-d).natAbs:Nat):Int)=v:=⟨_,rfl⟩
 try simp only [eg] at c1 c2 c3 c4 c5 c6 z1 z2 zc' zf' h1' ⊢
 obtain ⟨u,eu⟩:∃ v,itoaB (-n)=v:=⟨_,rfl⟩
 try simp only [eu] at c1 c2 c3 c4 c5 c6 z1 z2 zc' zf' h1' ⊢
 obtain ⟨v,ev⟩:∃ v,itoaB (-d)=v:=⟨_,rfl⟩
 try simp only [ev] at c1 c2 c3 c4 c5 c6 z1 z2 zc' zf' h1' ⊢
 obtain ⟨a,ea⟩:∃ v,itoaB n=v:=⟨_,rfl⟩
 try simp only [ea] at c1 c2 c3 c4 c5 c6 z1 z2 zc' zf' h1' ⊢
 obtain ⟨b,eb⟩:∃ v,itoaB d=v:=⟨_,rfl⟩
 try simp only [eb] at c1 c2 c3 c4 c5 c6 z1 z2 zc' zf' h1' ⊢
 have C1:=Lib.hid c1
 have C2:=Lib.hid c2
 have C3:=Lib.hid c3
 have C4:=Lib.hid c4
 have C5:=Lib.hid c5
 have C6:=Lib.hid c6
 clear c1 c2 c3 c4 c5 c6 ec ef ec' ef' eg eu ev ea eb hn hdl hd hn' hdl' hd' hs h1 hcs hfs zc zf
 have hb:=Below.refl w.heap.size w
 go_enter Tryz.func93,Tryz.ntmps93
 go_wp2_with ((first | (go_at_call 134;with_reducible refine (chRA hb R C1).mono ?_) | (go_at_call 157;first | with_reducible refine (chRA hb R C2).mono ?_ | with_reducible refine (chRA hb R C3).mono ?_) | (go_at_call 83;with_reducible refine (chRA hb R C4).mono ?_) | (go_at_call 137;first | with_reducible refine (chRA hb R C5).mono ?_ | with_reducible refine (chRA hb R C6).mono ?_));clear hb;rintro e w1 ⟨rfl,hb⟩)
 go_ret
 exact ⟨rfl,hb⟩
theorem frac_long (n d:Int) (w:World) (R:EnvR w) (hn:dlen n≤2000) (hdl:dlen d≤2000) (hd:d≠0) (hs:¬ ((itoaB n).size≤9∧(itoaB d).size≤9)) :
   Calls Tryz.prog 93 #[.string (itoaB n),.string (itoaB d)] w (Ret w (.string (ratB (Rat.divInt n d)))):=by
 rcases Int.lt_trichotomy d 0 with h | h | h
 · have hm:=mk_parts (-n) (-d) (by omega)
   rw [Rat.neg_divInt_neg] at hm
   rw [ratB_of _ _ _ hm.1 hm.2]
   by_cases h1 : -d / ((Nat.gcd (-n).natAbs (-d).natAbs:Nat):Int)=1
   · rw [if_pos h1]
     have e1:=(str_one _).trans (decide_eq_true h1)
     by_cases hs1:9 < (itoaB n).size
     · exact frac_ma1 n d hn hdl h hs1 e1 w R
     · exact frac_mb1 n d hn hdl h ⟨by omega,by omega⟩ e1 w R
   · rw [if_neg h1]
     have e1:=(str_one _).trans (decide_eq_false h1)
     by_cases hs1:9 < (itoaB n).size
     · exact frac_ma2 n d hn hdl h hs1 e1 w R
     · exact frac_mb2 n d hn hdl h ⟨by omega,by omega⟩ e1 w R
 · exact absurd h hd
 · have hm:=mk_parts n d h
   rw [ratB_of _ _ _ hm.1 hm.2]
   by_cases h1:d / ((Nat.gcd n.natAbs d.natAbs:Nat):Int)=1
   · rw [if_pos h1]
     have e1:=(str_one _).trans (decide_eq_true h1)
     by_cases hs1:9 < (itoaB n).size
     · exact frac_pa1 n d hn hdl h hs1 e1 w R
     · exact frac_pb1 n d hn hdl h ⟨by omega,by omega⟩ e1 w R
   · rw [if_neg h1]
     have e1:=(str_one _).trans (decide_eq_false h1)
     by_cases hs1:9 < (itoaB n).size
     · exact frac_pa2 n d hn hdl h hs1 e1 w R
     · exact frac_pb2 n d hn hdl h ⟨by omega,by omega⟩ e1 w R
theorem atoi_call (n:Int) (h:(itoaB n).size≤18) (w:World) :
   Calls Tryz.prog 198 #[.string (itoaB n)] w (Ret w (.tuple #[.int .i64 n,.nilIface])):=by
 refine (Tryz.strconv_Atoi (itoaB n) n h (atoi_itoa n) w).mono ?_
 rintro e w' ⟨he,t,rfl⟩
 exact ⟨he,Lib.bytesWorld_below _ _ _⟩
theorem quo_x (n:Int) (G:Nat) (x:Int) (h:(G:Int) ∣ n) (hx:n / (G:Int)=x):n.tdiv (G:Int)=x:=(Int.tdiv_eq_ediv_of_dvd h).trans hx
theorem quo_b (n:Int) (G:Nat) (h0 : -9223372036854775808 < n) (h1:n < 9223372036854775808) : -9223372036854775808 < n / (G:Int)∧n / (G:Int) < 9223372036854775808:=by
 have:=Int.natAbs_ediv_le_natAbs n (G:Int);omega
theorem small_pp (n d:Int) (s t:ByteArray) (x y:Int) (A B G:Nat) (r:ByteArray) (hG0:0 < G) (hA:A < 9223372036854775808) (hB:B < 9223372036854775808) (hg:Nat.gcd A B=G) (hx0 : -9223372036854775808 < x) (hx1:x < 9223372036854775808) (hy0:0 < y) (hy1:y < 9223372036854775808) (h1:y=1→itoaB x=r) (h2:y≠1→itoaB x ++ ⟨#[47]⟩ ++ itoaB y=r) (hn0 : -1000000000 < n) (hn1:n < 1000000000) (hd0 : -1000000000 < d) (hd1:d < 1000000000) (hds:0 < d) (hns:0≤n) (hNA:n=(A:Int)) (hDB:d=(B:Int)) (hx:n.tdiv (G:Int)=x) (hy:d.tdiv (G:Int)=y)
   (k1:∀ w,Calls Tryz.prog 198 #[.string s] w (Ret w (.tuple #[.int .i64 n,.nilIface]))) (k2:∀ w,Calls Tryz.prog 198 #[.string t] w (Ret w (.tuple #[.int .i64 d,.nilIface]))) (w:World) (R:EnvR w) :
   Calls Tryz.prog 156 #[.string s,.string t] w (Ret w (.string r)):=by
 have HX:=Lib.hid hx
 have HY:=Lib.hid hy
 have HG:=Lib.hid hg
 have HA:=Lib.hid hA
 have HB:=Lib.hid hB
 have H1:=Lib.hid h1
 have H2:=Lib.hid h2
 have CX:=Lib.hid (fun (w:World) (R:EnvR w)=>itoa_call x (by omega) (by omega) w R.env)
 have CY:=Lib.hid (fun (w:World) (R:EnvR w)=>itoa_call y (by omega) (by omega) w R.env)
 have zx:(itoaB x).size≤100001:=itoaB_size x (Nat.le_trans (dlen_int x (by omega) (by omega)) (by decide))
 have zy:(itoaB y).size≤100001:=itoaB_size y (Nat.le_trans (dlen_int y (by omega) (by omega)) (by decide))
 obtain ⟨sx,esx⟩:∃ v,itoaB x=v:=⟨_,rfl⟩
 obtain ⟨sy,esy⟩:∃ v,itoaB y=v:=⟨_,rfl⟩
 simp only [esx,esy] at CX CY H1 H2 zx zy
 clear hx hy hg h1 h2 esx esy hA hB
 have HNA:=Lib.hid hNA
 have HDB:=Lib.hid hDB
 clear hNA hDB
 have K1:=Lib.hid k1
 have K2:=Lib.hid k2
 clear k1 k2
 have hb:=Below.refl w.heap.size w
 go_enter Tryz.func156,Tryz.ntmps156
 go_wp2_with (go_at_call 198;first | ((with_reducible refine (chain hb (K1.out _)).mono ?_);clear hb;rintro e w1 ⟨rfl,hb⟩) | ((with_reducible refine (chain hb (K2.out _)).mono ?_);clear hb;rintro e w1 ⟨rfl,hb⟩))
 clear K1 K2
 go_loopw [9,10] (fun a b wr=>∃ p q:Nat,a = .int .i64 p∧b = .int .i64 q∧p < 9223372036854775808∧q < 9223372036854775808∧Nat.gcd p q=G∧Below w.heap.size w wr) (fun _ b _=>(intOf b).toNat)
 case atStart=>exact ⟨A,B,congrArg (Value.int .i64) (by have:=HNA.out;omega),congrArg (Value.int .i64) (by have:=HDB.out;omega),HA.out,HB.out,HG.out,hb⟩
 case round =>
   obtain ⟨p,q,rfl,rfl,hp,hq,hg,hb⟩:=hrel
   have HGG:=Lib.hid hg
   clear hg
   by_cases h0:q=0
   · subst h0
     have e:p=G:=by rw [← HGG.out];simp
     subst e
     have hp0:¬ (p=0):=by omega
     have hwx:IntKind.i64.wrap x=x:=IntWalk.i64_in _ (by omega)
     have hwy:IntKind.i64.wrap y=y:=IntWalk.i64_in _ (by omega)
     have hx:=HX.out
     have hy:=HY.out
     have hb2:=Below.drews hb
     by_cases h1:y=1
     · have h1i:((y:Int) == 1)=true:=by rw [beq_iff_eq];exact h1
       go_wp2
       go_quiet (fail)
       go_wp2_with (go_at_call 158;(with_reducible refine (chain2 (hb2 _) (CX.out _ (R.below (hb2 _)))).mono ?_);rintro e w3 ⟨rfl,hk,hb3⟩)
       go_ret
       exact ⟨retS (H1.out h1),hb3⟩
     · have h1i:((y:Int) == 1)=false:=by rw [beq_eq_false_iff_ne];exact h1
       go_wp2
       go_quiet (fail)
       go_wp2_with (go_at_call 158;first | ((with_reducible refine (chain2 (hb2 _) (CX.out _ (R.below (hb2 _)))).mono ?_);clear hb2;rintro e w3 ⟨rfl,hk,hb3⟩;clear hk) | ((with_reducible refine (chain2 hb3 (CY.out _ (R.below hb3))).mono ?_);clear hb3;rintro e w4 ⟨rfl,hk,hb3⟩;clear hk))
       go_ret
       exact ⟨retS (H2.out h1),hb3⟩
   · have hne:((q:Int) == 0)=false:=by simpa using h0
     have hpos:(0:Int) < (q:Int):=by omega
     go_wp2
     go_quiet (fail)
     go_wp2
     go_roundw
     case rel=>exact ⟨q,p % q,rfl,by go_num,hq,by have:=Nat.mod_lt p (Nat.pos_of_ne_zero h0);omega,by rw [← HGG.out,Nat.gcd_comm p q,Nat.gcd_rec q p,Nat.gcd_comm];done,Below.drews hb _⟩
     case measure=>simp [intOf];have:=Int.emod_lt_of_pos (p:Int) hpos;omega
theorem small_pm (n d:Int) (s t:ByteArray) (x y:Int) (A B G:Nat) (r:ByteArray) (hG0:0 < G) (hA:A < 9223372036854775808) (hB:B < 9223372036854775808) (hg:Nat.gcd A B=G) (hx0 : -9223372036854775808 < x) (hx1:x < 9223372036854775808) (hy0:0 < y) (hy1:y < 9223372036854775808) (h1:y=1→itoaB x=r) (h2:y≠1→itoaB x ++ ⟨#[47]⟩ ++ itoaB y=r) (hn0 : -1000000000 < n) (hn1:n < 1000000000) (hd0 : -1000000000 < d) (hd1:d < 1000000000) (hds:0 < d) (hns:n < 0) (hNA : -n=(A:Int)) (hDB:d=(B:Int)) (hx:n.tdiv (G:Int)=x) (hy:d.tdiv (G:Int)=y)
   (k1:∀ w,Calls Tryz.prog 198 #[.string s] w (Ret w (.tuple #[.int .i64 n,.nilIface]))) (k2:∀ w,Calls Tryz.prog 198 #[.string t] w (Ret w (.tuple #[.int .i64 d,.nilIface]))) (w:World) (R:EnvR w) :
   Calls Tryz.prog 156 #[.string s,.string t] w (Ret w (.string r)):=by
 have HX:=Lib.hid hx
 have HY:=Lib.hid hy
 have HG:=Lib.hid hg
 have HA:=Lib.hid hA
 have HB:=Lib.hid hB
 have H1:=Lib.hid h1
 have H2:=Lib.hid h2
 have CX:=Lib.hid (fun (w:World) (R:EnvR w)=>itoa_call x (by omega) (by omega) w R.env)
 have CY:=Lib.hid (fun (w:World) (R:EnvR w)=>itoa_call y (by omega) (by omega) w R.env)
 have zx:(itoaB x).size≤100001:=itoaB_size x (Nat.le_trans (dlen_int x (by omega) (by omega)) (by decide))
 have zy:(itoaB y).size≤100001:=itoaB_size y (Nat.le_trans (dlen_int y (by omega) (by omega)) (by decide))
 obtain ⟨sx,esx⟩:∃ v,itoaB x=v:=⟨_,rfl⟩
 obtain ⟨sy,esy⟩:∃ v,itoaB y=v:=⟨_,rfl⟩
 simp only [esx,esy] at CX CY H1 H2 zx zy
 clear hx hy hg h1 h2 esx esy hA hB
 have HNA:=Lib.hid hNA
 have HDB:=Lib.hid hDB
 clear hNA hDB
 have K1:=Lib.hid k1
 have K2:=Lib.hid k2
 clear k1 k2
 have hb:=Below.refl w.heap.size w
 go_enter Tryz.func156,Tryz.ntmps156
 go_wp2_with (go_at_call 198;first | ((with_reducible refine (chain hb (K1.out _)).mono ?_);clear hb;rintro e w1 ⟨rfl,hb⟩) | ((with_reducible refine (chain hb (K2.out _)).mono ?_);clear hb;rintro e w1 ⟨rfl,hb⟩))
 clear K1 K2
 go_loopw [9,10] (fun a b wr=>∃ p q:Nat,a = .int .i64 p∧b = .int .i64 q∧p < 9223372036854775808∧q < 9223372036854775808∧Nat.gcd p q=G∧Below w.heap.size w wr) (fun _ b _=>(intOf b).toNat)
 case atStart=>exact ⟨A,B,congrArg (Value.int .i64) (by have:=HNA.out;omega),congrArg (Value.int .i64) (by have:=HDB.out;omega),HA.out,HB.out,HG.out,hb⟩
 case round =>
   obtain ⟨p,q,rfl,rfl,hp,hq,hg,hb⟩:=hrel
   have HGG:=Lib.hid hg
   clear hg
   by_cases h0:q=0
   · subst h0
     have e:p=G:=by rw [← HGG.out];simp
     subst e
     have hp0:¬ (p=0):=by omega
     have hwx:IntKind.i64.wrap x=x:=IntWalk.i64_in _ (by omega)
     have hwy:IntKind.i64.wrap y=y:=IntWalk.i64_in _ (by omega)
     have hx:=HX.out
     have hy:=HY.out
     have hb2:=Below.drews hb
     by_cases h1:y=1
     · have h1i:((y:Int) == 1)=true:=by rw [beq_iff_eq];exact h1
       go_wp2
       go_quiet (fail)
       go_wp2_with (go_at_call 158;(with_reducible refine (chain2 (hb2 _) (CX.out _ (R.below (hb2 _)))).mono ?_);rintro e w3 ⟨rfl,hk,hb3⟩)
       go_ret
       exact ⟨retS (H1.out h1),hb3⟩
     · have h1i:((y:Int) == 1)=false:=by rw [beq_eq_false_iff_ne];exact h1
       go_wp2
       go_quiet (fail)
       go_wp2_with (go_at_call 158;first | ((with_reducible refine (chain2 (hb2 _) (CX.out _ (R.below (hb2 _)))).mono ?_);clear hb2;rintro e w3 ⟨rfl,hk,hb3⟩;clear hk) | ((with_reducible refine (chain2 hb3 (CY.out _ (R.below hb3))).mono ?_);clear hb3;rintro e w4 ⟨rfl,hk,hb3⟩;clear hk))
       go_ret
       exact ⟨retS (H2.out h1),hb3⟩
   · have hne:((q:Int) == 0)=false:=by simpa using h0
     have hpos:(0:Int) < (q:Int):=by omega
     go_wp2
     go_quiet (fail)
     go_wp2
     go_roundw
     case rel=>exact ⟨q,p % q,rfl,by go_num,hq,by have:=Nat.mod_lt p (Nat.pos_of_ne_zero h0);omega,by rw [← HGG.out,Nat.gcd_comm p q,Nat.gcd_rec q p,Nat.gcd_comm];done,Below.drews hb _⟩
     case measure=>simp [intOf];have:=Int.emod_lt_of_pos (p:Int) hpos;omega
theorem small_mp (n d:Int) (s t:ByteArray) (x y:Int) (A B G:Nat) (r:ByteArray) (hG0:0 < G) (hA:A < 9223372036854775808) (hB:B < 9223372036854775808) (hg:Nat.gcd A B=G) (hx0 : -9223372036854775808 < x) (hx1:x < 9223372036854775808) (hy0:0 < y) (hy1:y < 9223372036854775808) (h1:y=1→itoaB x=r) (h2:y≠1→itoaB x ++ ⟨#[47]⟩ ++ itoaB y=r) (hn0 : -1000000000 < n) (hn1:n < 1000000000) (hd0 : -1000000000 < d) (hd1:d < 1000000000) (hds:d < 0) (hns:0≤(-n)) (hNA:(-n)=(A:Int)) (hDB:(-d)=(B:Int)) (hx:(-n).tdiv (G:Int)=x) (hy:(-d).tdiv (G:Int)=y)
   (k1:∀ w,Calls Tryz.prog 198 #[.string s] w (Ret w (.tuple #[.int .i64 n,.nilIface]))) (k2:∀ w,Calls Tryz.prog 198 #[.string t] w (Ret w (.tuple #[.int .i64 d,.nilIface]))) (w:World) (R:EnvR w) :
   Calls Tryz.prog 156 #[.string s,.string t] w (Ret w (.string r)):=by
 have HX:=Lib.hid hx
 have HY:=Lib.hid hy
 have HG:=Lib.hid hg
 have HA:=Lib.hid hA
 have HB:=Lib.hid hB
 have H1:=Lib.hid h1
 have H2:=Lib.hid h2
 have CX:=Lib.hid (fun (w:World) (R:EnvR w)=>itoa_call x (by omega) (by omega) w R.env)
 have CY:=Lib.hid (fun (w:World) (R:EnvR w)=>itoa_call y (by omega) (by omega) w R.env)
 have zx:(itoaB x).size≤100001:=itoaB_size x (Nat.le_trans (dlen_int x (by omega) (by omega)) (by decide))
 have zy:(itoaB y).size≤100001:=itoaB_size y (Nat.le_trans (dlen_int y (by omega) (by omega)) (by decide))
 obtain ⟨sx,esx⟩:∃ v,itoaB x=v:=⟨_,rfl⟩
 obtain ⟨sy,esy⟩:∃ v,itoaB y=v:=⟨_,rfl⟩
 simp only [esx,esy] at CX CY H1 H2 zx zy
 clear hx hy hg h1 h2 esx esy hA hB
 have HNA:=Lib.hid hNA
 have HDB:=Lib.hid hDB
 clear hNA hDB
 have K1:=Lib.hid k1
 have K2:=Lib.hid k2
 clear k1 k2
 have hb:=Below.refl w.heap.size w
 go_enter Tryz.func156,Tryz.ntmps156
 go_wp2_with (go_at_call 198;first | ((with_reducible refine (chain hb (K1.out _)).mono ?_);clear hb;rintro e w1 ⟨rfl,hb⟩) | ((with_reducible refine (chain hb (K2.out _)).mono ?_);clear hb;rintro e w1 ⟨rfl,hb⟩))
 clear K1 K2
 go_loopw [9,10] (fun a b wr=>∃ p q:Nat,a = .int .i64 p∧b = .int .i64 q∧p < 9223372036854775808∧q < 9223372036854775808∧Nat.gcd p q=G∧Below w.heap.size w wr) (fun _ b _=>(intOf b).toNat)
 case atStart=>exact ⟨A,B,congrArg (Value.int .i64) (by have:=HNA.out;omega),congrArg (Value.int .i64) (by have:=HDB.out;omega),HA.out,HB.out,HG.out,hb⟩
 case round =>
   obtain ⟨p,q,rfl,rfl,hp,hq,hg,hb⟩:=hrel
   have HGG:=Lib.hid hg
   clear hg
   by_cases h0:q=0
   · subst h0
     have e:p=G:=by rw [← HGG.out];simp
     subst e
     have hp0:¬ (p=0):=by omega
     have hwx:IntKind.i64.wrap x=x:=IntWalk.i64_in _ (by omega)
     have hwy:IntKind.i64.wrap y=y:=IntWalk.i64_in _ (by omega)
     have hx:=HX.out
     have hy:=HY.out
     have hb2:=Below.drews hb
     by_cases h1:y=1
     · have h1i:((y:Int) == 1)=true:=by rw [beq_iff_eq];exact h1
       go_wp2
       go_quiet (fail)
       go_wp2_with (go_at_call 158;(with_reducible refine (chain2 (hb2 _) (CX.out _ (R.below (hb2 _)))).mono ?_);rintro e w3 ⟨rfl,hk,hb3⟩)
       go_ret
       exact ⟨retS (H1.out h1),hb3⟩
     · have h1i:((y:Int) == 1)=false:=by rw [beq_eq_false_iff_ne];exact h1
       go_wp2
       go_quiet (fail)
       go_wp2_with (go_at_call 158;first | ((with_reducible refine (chain2 (hb2 _) (CX.out _ (R.below (hb2 _)))).mono ?_);clear hb2;rintro e w3 ⟨rfl,hk,hb3⟩;clear hk) | ((with_reducible refine (chain2 hb3 (CY.out _ (R.below hb3))).mono ?_);clear hb3;rintro e w4 ⟨rfl,hk,hb3⟩;clear hk))
       go_ret
       exact ⟨retS (H2.out h1),hb3⟩
   · have hne:((q:Int) == 0)=false:=by simpa using h0
     have hpos:(0:Int) < (q:Int):=by omega
     go_wp2
     go_quiet (fail)
     go_wp2
     go_roundw
     case rel=>exact ⟨q,p % q,rfl,by go_num,hq,by have:=Nat.mod_lt p (Nat.pos_of_ne_zero h0);omega,by rw [← HGG.out,Nat.gcd_comm p q,Nat.gcd_rec q p,Nat.gcd_comm];done,Below.drews hb _⟩
     case measure=>simp [intOf];have:=Int.emod_lt_of_pos (p:Int) hpos;omega
theorem small_mm (n d:Int) (s t:ByteArray) (x y:Int) (A B G:Nat) (r:ByteArray) (hG0:0 < G) (hA:A < 9223372036854775808) (hB:B < 9223372036854775808) (hg:Nat.gcd A B=G) (hx0 : -9223372036854775808 < x) (hx1:x < 9223372036854775808) (hy0:0 < y) (hy1:y < 9223372036854775808) (h1:y=1→itoaB x=r) (h2:y≠1→itoaB x ++ ⟨#[47]⟩ ++ itoaB y=r) (hn0 : -1000000000 < n) (hn1:n < 1000000000) (hd0 : -1000000000 < d) (hd1:d < 1000000000) (hds:d < 0) (hns:(-n) < 0) (hNA : -(-n)=(A:Int)) (hDB:(-d)=(B:Int)) (hx:(-n).tdiv (G:Int)=x) (hy:(-d).tdiv (G:Int)=y)
   (k1:∀ w,Calls Tryz.prog 198 #[.string s] w (Ret w (.tuple #[.int .i64 n,.nilIface]))) (k2:∀ w,Calls Tryz.prog 198 #[.string t] w (Ret w (.tuple #[.int .i64 d,.nilIface]))) (w:World) (R:EnvR w) :
   Calls Tryz.prog 156 #[.string s,.string t] w (Ret w (.string r)):=by
 have HX:=Lib.hid hx
 have HY:=Lib.hid hy
 have HG:=Lib.hid hg
 have HA:=Lib.hid hA
 have HB:=Lib.hid hB
 have H1:=Lib.hid h1
 have H2:=Lib.hid h2
 have CX:=Lib.hid (fun (w:World) (R:EnvR w)=>itoa_call x (by omega) (by omega) w R.env)
 have CY:=Lib.hid (fun (w:World) (R:EnvR w)=>itoa_call y (by omega) (by omega) w R.env)
 have zx:(itoaB x).size≤100001:=itoaB_size x (Nat.le_trans (dlen_int x (by omega) (by omega)) (by decide))
 have zy:(itoaB y).size≤100001:=itoaB_size y (Nat.le_trans (dlen_int y (by omega) (by omega)) (by decide))
 obtain ⟨sx,esx⟩:∃ v,itoaB x=v:=⟨_,rfl⟩
 obtain ⟨sy,esy⟩:∃ v,itoaB y=v:=⟨_,rfl⟩
 simp only [esx,esy] at CX CY H1 H2 zx zy
 clear hx hy hg h1 h2 esx esy hA hB
 have HNA:=Lib.hid hNA
 have HDB:=Lib.hid hDB
 clear hNA hDB
 have K1:=Lib.hid k1
 have K2:=Lib.hid k2
 clear k1 k2
 have hb:=Below.refl w.heap.size w
 go_enter Tryz.func156,Tryz.ntmps156
 go_wp2_with (go_at_call 198;first | ((with_reducible refine (chain hb (K1.out _)).mono ?_);clear hb;rintro e w1 ⟨rfl,hb⟩) | ((with_reducible refine (chain hb (K2.out _)).mono ?_);clear hb;rintro e w1 ⟨rfl,hb⟩))
 clear K1 K2
 go_loopw [9,10] (fun a b wr=>∃ p q:Nat,a = .int .i64 p∧b = .int .i64 q∧p < 9223372036854775808∧q < 9223372036854775808∧Nat.gcd p q=G∧Below w.heap.size w wr) (fun _ b _=>(intOf b).toNat)
 case atStart=>exact ⟨A,B,congrArg (Value.int .i64) (by have:=HNA.out;omega),congrArg (Value.int .i64) (by have:=HDB.out;omega),HA.out,HB.out,HG.out,hb⟩
 case round =>
   obtain ⟨p,q,rfl,rfl,hp,hq,hg,hb⟩:=hrel
   have HGG:=Lib.hid hg
   clear hg
   by_cases h0:q=0
   · subst h0
     have e:p=G:=by rw [← HGG.out];simp
     subst e
     have hp0:¬ (p=0):=by omega
     have hwx:IntKind.i64.wrap x=x:=IntWalk.i64_in _ (by omega)
     have hwy:IntKind.i64.wrap y=y:=IntWalk.i64_in _ (by omega)
     have hx:=HX.out
     have hy:=HY.out
     have hb2:=Below.drews hb
     by_cases h1:y=1
     · have h1i:((y:Int) == 1)=true:=by rw [beq_iff_eq];exact h1
       go_wp2
       go_quiet (fail)
       go_wp2_with (go_at_call 158;(with_reducible refine (chain2 (hb2 _) (CX.out _ (R.below (hb2 _)))).mono ?_);rintro e w3 ⟨rfl,hk,hb3⟩)
       go_ret
       exact ⟨retS (H1.out h1),hb3⟩
     · have h1i:((y:Int) == 1)=false:=by rw [beq_eq_false_iff_ne];exact h1
       go_wp2
       go_quiet (fail)
       go_wp2_with (go_at_call 158;first | ((with_reducible refine (chain2 (hb2 _) (CX.out _ (R.below (hb2 _)))).mono ?_);clear hb2;rintro e w3 ⟨rfl,hk,hb3⟩;clear hk) | ((with_reducible refine (chain2 hb3 (CY.out _ (R.below hb3))).mono ?_);clear hb3;rintro e w4 ⟨rfl,hk,hb3⟩;clear hk))
       go_ret
       exact ⟨retS (H2.out h1),hb3⟩
   · have hne:((q:Int) == 0)=false:=by simpa using h0
     have hpos:(0:Int) < (q:Int):=by omega
     go_wp2
     go_quiet (fail)
     go_wp2
     go_roundw
     case rel=>exact ⟨q,p % q,rfl,by go_num,hq,by have:=Nat.mod_lt p (Nat.pos_of_ne_zero h0);omega,by rw [← HGG.out,Nat.gcd_comm p q,Nat.gcd_rec q p,Nat.gcd_comm];done,Below.drews hb _⟩
     case measure=>simp [intOf];have:=Int.emod_lt_of_pos (p:Int) hpos;omega
theorem gcd_parts (n d:Int) (hd:0 < d) (G:Nat) (hG:Nat.gcd n.natAbs d.natAbs=G):0 < G∧(G:Int) ∣ n∧(G:Int) ∣ d∧(Rat.divInt n d).num=n / (G:Int)∧((Rat.divInt n d).den:Int)=d / (G:Int):=by
 obtain ⟨h1,h2⟩:=mk_parts n d hd
 have v1:=gcd_dvd1 n d
 have v2:=gcd_dvd2 n d
 have h0:=Nat.gcd_pos_of_pos_right n.natAbs (show 0 < d.natAbs by omega)
 rw [hG] at h0 h1 h2 v1 v2
 exact ⟨h0,v1,v2,h1,h2⟩
theorem ratB_cases (q:Rat) (x y:Int) (hx:q.num=x) (hy:(q.den:Int)=y):(y=1→itoaB x=ratB q)∧(y≠1→itoaB x ++ ⟨#[47]⟩ ++ itoaB y=ratB q):=by
 have h:=ratB_of q x y hx hy
 exact ⟨fun e=>by rw [h,if_pos e],fun e=>by rw [h,if_neg e]⟩
theorem refSmall2_any (n d:Int) (hn:(itoaB n).size≤9) (hdl:(itoaB d).size≤9) (hd:d≠0) (w:World) (R:EnvR w) :
   Calls Tryz.prog 156 #[.string (itoaB n),.string (itoaB d)] w (Ret w (.string (ratB (Rat.divInt n d)))):=by
 have s1:=itoa_size n
 have s2:=itoa_size d
 have l1:=dlen_lt n 9 (by split at s1 <;> omega)
 have l2:=dlen_lt d 9 (by split at s2 <;> omega)
 have k1:=fun w=>atoi_call n (by omega) w
 have k2:=fun w=>atoi_call d (by omega) w
 rcases Int.lt_trichotomy d 0 with h | h | h
 · obtain ⟨G,hG⟩:∃ G,Nat.gcd (-n).natAbs (-d).natAbs=G:=⟨_,rfl⟩
   obtain ⟨g0,v1,v2,m1,m2⟩:=gcd_parts (-n) (-d) (by omega) G hG
   rw [Rat.neg_divInt_neg] at m1 m2
   obtain ⟨r1,r2⟩:=ratB_cases _ _ _ m1 m2
   have b1:=quo_b (-n) G (by omega) (by omega)
   have b2:=quo_b (-d) G (by omega) (by omega)
   have hp:=(Rat.divInt n d).den_pos
   by_cases hn2 : -n < 0
   · exact small_mm n d _ _ _ _ (-n).natAbs (-d).natAbs G _ g0 (by omega) (by omega) hG b1.1 b1.2 (by omega) b2.2 r1 r2 (by omega) (by omega) (by omega) (by omega) h hn2 (by omega) (by omega) (quo_x _ G _ v1 rfl) (quo_x _ G _ v2 rfl) k1 k2 w R
   · exact small_mp n d _ _ _ _ (-n).natAbs (-d).natAbs G _ g0 (by omega) (by omega) hG b1.1 b1.2 (by omega) b2.2 r1 r2 (by omega) (by omega) (by omega) (by omega) h (by omega) (by omega) (by omega) (quo_x _ G _ v1 rfl) (quo_x _ G _ v2 rfl) k1 k2 w R
 · exact absurd h hd
 · obtain ⟨G,hG⟩:∃ G,Nat.gcd n.natAbs d.natAbs=G:=⟨_,rfl⟩
   obtain ⟨g0,v1,v2,m1,m2⟩:=gcd_parts n d h G hG
   obtain ⟨r1,r2⟩:=ratB_cases _ _ _ m1 m2
   have b1:=quo_b n G (by omega) (by omega)
   have b2:=quo_b d G (by omega) (by omega)
   have hp:=(Rat.divInt n d).den_pos
   by_cases hn2:n < 0
   · exact small_pm n d _ _ _ _ n.natAbs d.natAbs G _ g0 (by omega) (by omega) hG b1.1 b1.2 (by omega) b2.2 r1 r2 (by omega) (by omega) (by omega) (by omega) h hn2 (by omega) (by omega) (quo_x _ G _ v1 rfl) (quo_x _ G _ v2 rfl) k1 k2 w R
   · exact small_pp n d _ _ _ _ n.natAbs d.natAbs G _ g0 (by omega) (by omega) hG b1.1 b1.2 (by omega) b2.2 r1 r2 (by omega) (by omega) (by omega) (by omega) h (by omega) (by omega) (by omega) (quo_x _ G _ v1 rfl) (quo_x _ G _ v2 rfl) k1 k2 w R
theorem frac_short (a b r:ByteArray) (ha:(a.size:Int)≤9) (hb':(b.size:Int)≤9) (hs:CR 156 #[.string a,.string b] (.string r)) (w:World) (R:EnvR w) :
   Calls Tryz.prog 93 #[.string a,.string b] w (Ret w (.string r)):=by
 have c1:=hs
 have C1:=Lib.hid c1
 clear c1 hs
 have hb:=Below.refl w.heap.size w
 go_enter Tryz.func93,Tryz.ntmps93
 go_wp2_with (go_at_call 156;with_reducible refine (chRA hb R C1).mono ?_;clear hb;rintro e w1 ⟨rfl,hb⟩)
 go_ret
 exact ⟨rfl,hb⟩
theorem refFrac_any (n d:Int) (w:World) (R:EnvR w) (hn:dlen n≤2000) (hdl:dlen d≤2000) (hd:d≠0) :
   Calls Tryz.prog 93 #[.string (itoaB n),.string (itoaB d)] w (Ret w (.string (ratB (Rat.divInt n d)))):=by
 by_cases hs:(itoaB n).size≤9∧(itoaB d).size≤9
 · exact frac_short _ _ _ (by omega) (by omega) (fun w R=>refSmall2_any n d hs.1 hs.2 hd w R) w R
 · exact frac_long n d w R hn hdl hd hs
theorem RL_neg {q:Rat} {K:Nat} (h:RL q K):RL (-q) K:=⟨by show dlen (-q.num)≤K;rw [dlen_neg];exact h.1,h.2⟩
theorem RL_inv {q:Rat} {K:Nat} (h:RL q K) (h0:q.num≠0):RL q⁻¹ K:=by
 refine ⟨?_,?_⟩
 · rw [Rat.num_inv]
   have:(q.num.sign*(q.den:Int)).natAbs=(q.den:Int).natAbs:=by
     rw [Int.natAbs_mul,Int.natAbs_sign_of_ne_zero h0,Nat.one_mul]
   have h2:=h.2
   unfold dlen at h2 ⊢;rw [this];exact h2
 · rw [Rat.den_inv,if_neg h0]
   have h1:=h.1
   unfold dlen at h1 ⊢;rwa [Int.natAbs_natCast]
theorem split_right {a b:List UInt8} (h1:rightB a=true) (h2:rightB b=true):∃ x y:Int,strOf a=itoaB x∧strOf b=itoaB y∧dlen x≤200∧dlen y≤200 ∧
   (∀ _h:(47:UInt8) ∉ a,IsRat (a ++ 47 :: b)↔x≠0∧1 < y∧Nat.gcd x.natAbs y.natAbs=1):=by
 obtain ⟨x,e1,d1⟩:=rightB_iff.1 h1
 obtain ⟨y,e2,d2⟩:=rightB_iff.1 h2
 refine ⟨x,y,by rw [e1];rfl,by rw [e2];rfl,d1,d2,fun h=>?_⟩
 rw [isRat_slash h]
 constructor
 · rintro ⟨x',y',f1,f2,_,_,g⟩
   rw [itoaS_inj (e1.symm.trans f1),itoaS_inj (e2.symm.trans f2)]
   exact g
 · intro g
   exact ⟨x,y,e1,e2,d1,d2,g⟩
theorem check_a (s a b:ByteArray) (f:Bool) (c1':CR 115 #[.string s,.string ⟨#[47]⟩] (.tuple #[.string a,.string b,.bool f])) (c2':CR 116 #[.string a] (.int .i64 2)) (w:World) (R:EnvR w) :
   Calls Tryz.prog 70 #[.string s] w (Ret w (.int .i64 2)):=by
 have c1:=c1'
 have c2:=c2'
 have C1:=Lib.hid c1
 have C2:=Lib.hid c2
 clear c1 c2 c1' c2'
 have hb:=Below.refl w.heap.size w
 go_enter Tryz.func70,Tryz.ntmps70
 go_wp2_with ((first | (go_at_call 115;with_reducible refine (chRA hb R C1).mono ?_) | (go_at_call 116;with_reducible refine (chRA hb R C2).mono ?_));clear hb;rintro e w1 ⟨rfl,hb⟩)
 go_ret
 exact ⟨rfl,hb⟩
theorem check_b (s a b:ByteArray) (c1':CR 115 #[.string s,.string ⟨#[47]⟩] (.tuple #[.string a,.string b,.bool false])) (c2':CR 116 #[.string a] (.int .i64 0)) (w:World) (R:EnvR w) :
   Calls Tryz.prog 70 #[.string s] w (Ret w (.int .i64 0)):=by
 have c1:=c1'
 have c2:=c2'
 have C1:=Lib.hid c1
 have C2:=Lib.hid c2
 clear c1 c2 c1' c2'
 have hb:=Below.refl w.heap.size w
 go_enter Tryz.func70,Tryz.ntmps70
 go_wp2_with ((first | (go_at_call 115;with_reducible refine (chRA hb R C1).mono ?_) | (go_at_call 116;with_reducible refine (chRA hb R C2).mono ?_));clear hb;rintro e w1 ⟨rfl,hb⟩)
 go_ret
 exact ⟨rfl,hb⟩
theorem check_c (s a b:ByteArray) (c1':CR 115 #[.string s,.string ⟨#[47]⟩] (.tuple #[.string a,.string b,.bool true])) (c2':CR 116 #[.string a] (.int .i64 0)) (c3':CR 116 #[.string b] (.int .i64 2)) (w:World) (R:EnvR w) :
   Calls Tryz.prog 70 #[.string s] w (Ret w (.int .i64 2)):=by
 have c1:=c1'
 have c2:=c2'
 have c3:=c3'
 have C1:=Lib.hid c1
 have C2:=Lib.hid c2
 have C3:=Lib.hid c3
 clear c1 c2 c3 c1' c2' c3'
 have hb:=Below.refl w.heap.size w
 go_enter Tryz.func70,Tryz.ntmps70
 go_wp2_with ((first | (go_at_call 115;with_reducible refine (chRA hb R C1).mono ?_) | (go_at_call 116;first | with_reducible refine (chRA hb R C2).mono ?_ | with_reducible refine (chRA hb R C3).mono ?_));clear hb;rintro e w1 ⟨rfl,hb⟩)
 go_ret
 exact ⟨rfl,hb⟩
theorem check_d (s a b:ByteArray) (h0:(a.toList == [48])=true) (c1':CR 115 #[.string s,.string ⟨#[47]⟩] (.tuple #[.string a,.string b,.bool true])) (c2':CR 116 #[.string a] (.int .i64 0)) (c3':CR 116 #[.string b] (.int .i64 0)) (w:World) (R:EnvR w) :
   Calls Tryz.prog 70 #[.string s] w (Ret w (.int .i64 2)):=by
 have c1:=c1'
 have c2:=c2'
 have c3:=c3'
 have C1:=Lib.hid c1
 have C2:=Lib.hid c2
 have C3:=Lib.hid c3
 clear c1 c2 c3 c1' c2' c3'
 have hb:=Below.refl w.heap.size w
 go_enter Tryz.func70,Tryz.ntmps70
 go_wp2_with ((first | (go_at_call 115;with_reducible refine (chRA hb R C1).mono ?_) | (go_at_call 116;first | with_reducible refine (chRA hb R C2).mono ?_ | with_reducible refine (chRA hb R C3).mono ?_));clear hb;rintro e w1 ⟨rfl,hb⟩)
 go_ret
 exact ⟨rfl,hb⟩
theorem check_e (s a b:ByteArray) (c:Int) (h0:(a.toList == [48])=false) (hc:c≤0) (c1':CR 115 #[.string s,.string ⟨#[47]⟩] (.tuple #[.string a,.string b,.bool true])) (c2':CR 116 #[.string a] (.int .i64 0)) (c3':CR 116 #[.string b] (.int .i64 0)) (c4':CR 117 #[.string b,.string ⟨#[49]⟩] (.int .i64 c)) (w:World) (R:EnvR w) :
   Calls Tryz.prog 70 #[.string s] w (Ret w (.int .i64 2)):=by
 have c1:=c1'
 have c2:=c2'
 have c3:=c3'
 have c4:=c4'
 have C1:=Lib.hid c1
 have C2:=Lib.hid c2
 have C3:=Lib.hid c3
 have C4:=Lib.hid c4
 clear c1 c2 c3 c4 c1' c2' c3' c4'
 have hb:=Below.refl w.heap.size w
 go_enter Tryz.func70,Tryz.ntmps70
 go_wp2_with ((first | (go_at_call 115;with_reducible refine (chRA hb R C1).mono ?_) | (go_at_call 116;first | with_reducible refine (chRA hb R C2).mono ?_ | with_reducible refine (chRA hb R C3).mono ?_) | (go_at_call 117;with_reducible refine (chRA hb R C4).mono ?_));clear hb;rintro e w1 ⟨rfl,hb⟩)
 go_ret
 exact ⟨rfl,hb⟩
theorem check_f_true (s a b g:ByteArray) (c:Int) (h0:(a.toList == [48])=false) (hc:0 < c) (hg:(g.toList == [49])=true) (c1':CR 115 #[.string s,.string ⟨#[47]⟩] (.tuple #[.string a,.string b,.bool true])) (c2':CR 116 #[.string a] (.int .i64 0)) (c3':CR 116 #[.string b] (.int .i64 0)) (c4':CR 117 #[.string b,.string ⟨#[49]⟩] (.int .i64 c)) (c5':CR 88 #[.string a,.string b] (.string g)) (w:World) (R:EnvR w) :
   Calls Tryz.prog 70 #[.string s] w (Ret w (.int .i64 0)):=by
 have c1:=c1'
 have c2:=c2'
 have c3:=c3'
 have c4:=c4'
 have c5:=c5'
 have C1:=Lib.hid c1
 have C2:=Lib.hid c2
 have C3:=Lib.hid c3
 have C4:=Lib.hid c4
 have C5:=Lib.hid c5
 clear c1 c2 c3 c4 c5 c1' c2' c3' c4' c5'
 have hb:=Below.refl w.heap.size w
 go_enter Tryz.func70,Tryz.ntmps70
 go_wp2_with ((first | (go_at_call 115;with_reducible refine (chRA hb R C1).mono ?_) | (go_at_call 116;first | with_reducible refine (chRA hb R C2).mono ?_ | with_reducible refine (chRA hb R C3).mono ?_) | (go_at_call 117;with_reducible refine (chRA hb R C4).mono ?_) | (go_at_call 88;with_reducible refine (chRA hb R C5).mono ?_));clear hb;rintro e w1 ⟨rfl,hb⟩)
 go_ret
 exact ⟨rfl,hb⟩
theorem check_f_false (s a b g:ByteArray) (c:Int) (h0:(a.toList == [48])=false) (hc:0 < c) (hg:(g.toList == [49])=false) (c1':CR 115 #[.string s,.string ⟨#[47]⟩] (.tuple #[.string a,.string b,.bool true])) (c2':CR 116 #[.string a] (.int .i64 0)) (c3':CR 116 #[.string b] (.int .i64 0)) (c4':CR 117 #[.string b,.string ⟨#[49]⟩] (.int .i64 c)) (c5':CR 88 #[.string a,.string b] (.string g)) (w:World) (R:EnvR w) :
   Calls Tryz.prog 70 #[.string s] w (Ret w (.int .i64 2)):=by
 have c1:=c1'
 have c2:=c2'
 have c3:=c3'
 have c4:=c4'
 have c5:=c5'
 have C1:=Lib.hid c1
 have C2:=Lib.hid c2
 have C3:=Lib.hid c3
 have C4:=Lib.hid c4
 have C5:=Lib.hid c5
 clear c1 c2 c3 c4 c5 c1' c2' c3' c4' c5'
 have hb:=Below.refl w.heap.size w
 go_enter Tryz.func70,Tryz.ntmps70
 go_wp2_with ((first | (go_at_call 115;with_reducible refine (chRA hb R C1).mono ?_) | (go_at_call 116;first | with_reducible refine (chRA hb R C2).mono ?_ | with_reducible refine (chRA hb R C3).mono ?_) | (go_at_call 117;with_reducible refine (chRA hb R C4).mono ?_) | (go_at_call 88;with_reducible refine (chRA hb R C5).mono ?_));clear hb;rintro e w1 ⟨rfl,hb⟩)
 go_ret
 exact ⟨rfl,hb⟩
theorem check_tt {a:List UInt8} {v:Int} (h:(if rightB a then (0:Int) else 2)=v) (hs:a.length≤1000000) (w:World) (_R:EnvR w):Calls Tryz.prog 116 #[.string (strOf a)] w (Ret w (.int .i64 v)):=
 (check_any (strOf a) w (by rw [strOf_size];exact hs) v h).mono fun _ _ ⟨a,b⟩=>⟨a,b ▸ Below.refl _ _⟩
theorem rcheck_any (s:ByteArray) (v:Int) (hv:(IsRat s.data.toList∧v=0)∨(¬ IsRat s.data.toList∧v=2)) (hs:s.size≤100000) (w:World) (R:EnvR w) :
   Calls Tryz.prog 70 #[.string s] w (Ret w (.int .i64 v)):=by
 rcases slash_split s.data.toList with hn | ⟨a,d,e,hn⟩
 · rw [isRat_nos hn] at hv
   have hc:CR 115 #[.string s,.string ⟨#[47]⟩] (.tuple #[.string s,.string ⟨#[]⟩,.bool false]):=fun w R=>cut_call s ⟨#[47]⟩ _ _ _ (cut_miss hn) (by omega) w R
   rcases hv with ⟨h,rfl⟩ | ⟨h,rfl⟩
   · exact check_b s _ _ hc (fun w R=>check_tt (a:=s.data.toList) (by rw [h];rfl) (by rw [← size_len];omega) w R) w R
   · exact check_a s _ _ _ hc (fun w R=>check_tt (a:=s.data.toList) (by rw [if_neg h]) (by rw [← size_len];omega) w R) w R
 · rw [e] at hv
   have hl:s.size=a.length+1+d.length:=by rw [size_len,e,List.length_append,List.length_cons];omega
   have hc:CR 115 #[.string s,.string ⟨#[47]⟩] (.tuple #[.string (strOf a),.string (strOf d),.bool true]):=fun w R=>cut_call s ⟨#[47]⟩ (strOf a) (strOf d) _ (by rw [e];exact cut_hit hn) (by omega) w R
   cases ha:rightB a with
   | false =>
     have hv0:v=2:=by
       rcases hv with ⟨h,_⟩ | ⟨_,h⟩
       · obtain ⟨x,y,f1,_,d1,_⟩:=(isRat_slash hn).1 h
         rw [rightB_iff.2 ⟨x,f1,d1⟩] at ha;cases ha
       · exact h
     rw [hv0]
     exact check_a s _ _ _ hc (fun w R=>check_tt (by rw [ha];rfl) (by omega) w R) w R
   | true =>
     have k1:=fun w R=>check_tt (a:=a) (v:=0) (by rw [ha];rfl) (by omega) w R
     cases hd:rightB d with
     | false =>
       have hv0:v=2:=by
         rcases hv with ⟨h,_⟩ | ⟨_,h⟩
         · obtain ⟨x,y,_,f2,_,d2,_⟩:=(isRat_slash hn).1 h
           rw [rightB_iff.2 ⟨y,f2,d2⟩] at hd;cases hd
         · exact h
       rw [hv0]
       exact check_c s _ _ hc k1 (fun w R=>check_tt (by rw [hd];rfl) (by omega) w R) w R
     | true =>
       have k2:=fun w R=>check_tt (a:=d) (v:=0) (by rw [hd];rfl) (by omega) w R
       obtain ⟨x,y,e1,e2,d1,d2,hi⟩:=split_right ha hd
       rw [hi hn] at hv
       rw [e1,e2] at hc
       rw [e1] at k1
       rw [e2] at k2
       have kc:CR 117 #[.string (itoaB y),.string ⟨#[49]⟩] (.int .i64 (y - 1).sign):=fun w R=>by
         have:=compare_any y 1 w
         rwa [itoa_one] at this
       have kg:=fun (w:World) (R:EnvR w)=>gcd_any x y w R.env (Nat.le_trans d1 (by decide)) (Nat.le_trans d2 (by decide))
       by_cases hx:x=0
       · have hv0:v=2:=by
           rcases hv with ⟨h,_⟩ | ⟨_,h⟩
           · exact absurd hx h.1
           · exact h
         rw [hv0]
         exact check_d s _ _ (by rw [str_zero];exact decide_eq_true hx) hc k1 k2 w R
       · have h0:((itoaB x).toList == [48])=false:=by rw [str_zero];exact decide_eq_false hx
         by_cases hy:1 < y
         · have hcs:0 < (y - 1).sign:=by rw [Int.sign_eq_one_of_pos (by omega)];decide
           by_cases hgc:Nat.gcd x.natAbs y.natAbs=1
           · have hv0:v=0:=by
               rcases hv with ⟨_,h⟩ | ⟨h,_⟩
               · exact h
               · exact absurd ⟨hx,hy,hgc⟩ h
             rw [hv0]
             exact check_f_true s _ _ _ _ h0 hcs (by rw [str_one,hgc];rfl) hc k1 k2 kc kg w R
           · have hv0:v=2:=by
               rcases hv with ⟨h,_⟩ | ⟨_,h⟩
               · exact absurd h.2.2 hgc
               · exact h
             rw [hv0]
             exact check_f_false s _ _ _ _ h0 hcs (by rw [str_one];exact decide_eq_false (by omega)) hc k1 k2 kc kg w R
         · have hcs:(y - 1).sign≤0:=by
             rcases Int.lt_trichotomy (y - 1) 0 with h | h | h
             · rw [Int.sign_eq_neg_one_of_neg h];decide
             · rw [h];decide
             · omega
           have hv0:v=2:=by
             rcases hv with ⟨h,_⟩ | ⟨_,h⟩
             · exact absurd h.2.1 hy
             · exact h
           rw [hv0]
           exact check_e s _ _ _ h0 hcs hc k1 k2 kc w R
end Go.Proofs.YtpennccflalobaaGreatDoor.Kl
