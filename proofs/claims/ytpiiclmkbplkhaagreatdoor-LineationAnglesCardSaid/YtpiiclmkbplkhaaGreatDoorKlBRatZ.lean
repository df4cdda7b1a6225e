import Derived.Lib.IndexMore
import Derived.Lib.Atoi
import Derived.Test.YtpiiclmkbplkhaaGreatDoorKlBGcdIZ
namespace Go.Proofs.YtpiiclmkbplkhaaGreatDoor.Kl
open Go
set_option maxRecDepth 100000
set_option maxHeartbeats 8000000
theorem dig_ne47 {c:UInt8} (h:isDig c=true):c≠47:=by
 rintro rfl;revert h;decide
theorem nos_dig {l:List UInt8} (h:l.all isDig=true):(47:UInt8) ∉ l:=fun hm=>dig_ne47 (List.all_eq_true.1 h 47 hm) rfl
theorem nos_dec (u:Nat):(47:UInt8) ∉ Lib.decDigits u:=nos_dig (decDigits_dig u)
theorem nos_itoa (n:Int):(47:UInt8) ∉ Lib.itoa n:=by
 unfold Lib.itoa;split
 · simp [nos_dec]
 · exact nos_dec _
theorem occ_head (s:List UInt8) (i:Nat):Lib.occAt s [47] i=(s[i]? == some 47):=by
 unfold Lib.occAt
 rw [← List.head?_drop]
 cases s.drop i with
 | nil=>rfl
 | cons b r =>
   by_cases h:b=47
   · subst h;simp
   · have h1:((47:UInt8) == b)=false:=by rw [beq_eq_false_iff_ne];exact fun e=>h e.symm
     have h2:(b == (47:UInt8))=false:=by rw [beq_eq_false_iff_ne];exact h
     show (((47:UInt8) == b) && List.isPrefixOf [] r)=(b == 47)
     rw [h1,h2];rfl
theorem cut_hit {a b:List UInt8} (h:(47:UInt8) ∉ a):Lib.cut (a ++ 47 :: b) [47]=(a,b,true):=by
 have e:Lib.index (a ++ 47 :: b) [47]=a.length:=Lib.index_first (by simp) (by rw [occ_head];simp) (fun j hj=>by
   rw [occ_head,List.getElem?_append_left hj,List.getElem?_eq_getElem hj]
   have:a[j]≠47:=fun e=>h (e ▸ List.getElem_mem hj)
   simp [this])
 unfold Lib.cut
 rw [e,if_pos (by omega)]
 simp
theorem cut_miss {l:List UInt8} (h:(47:UInt8) ∉ l):Lib.cut l [47]=(l,[],false):=by
 have e:Lib.index l [47] = -1:=by
   rcases Lib.index_spec l [47] with h1 | ⟨i,_,hi,ho,_⟩
   · exact h1.1
   · rw [occ_head,beq_iff_eq] at ho
     exact absurd (List.mem_of_getElem? ho) h
 unfold Lib.cut
 rw [e,if_neg (by decide)]
theorem slash_split (l:List UInt8):(47:UInt8) ∉ l∨∃ a b,l=a ++ 47 :: b∧(47:UInt8) ∉ a:=by
 by_cases h:(47:UInt8) ∈ l
 · obtain ⟨a,b,e,hn⟩:=List.eq_append_cons_of_mem h
   exact Or.inr ⟨a,b,e,hn⟩
 · exact Or.inl h
def ratS (q:Rat):List UInt8:=if q.den=1 then Lib.itoa q.num else Lib.itoa q.num ++ 47 :: Lib.itoa q.den
def ratB (q:Rat):ByteArray:=strOf (ratS q)
def RL (q:Rat) (K:Nat):Prop:=dlen q.num≤K∧dlen (q.den:Int)≤K
theorem RL.mono {q:Rat} {K M:Nat} (h:RL q K) (hk:K≤M):RL q M:=⟨Nat.le_trans h.1 hk,Nat.le_trans h.2 hk⟩
theorem ratS_int {q:Rat} (h:q.den=1):ratS q=Lib.itoa q.num:=by unfold ratS;rw [if_pos h]
theorem ratS_frac {q:Rat} (h:q.den≠1):ratS q=Lib.itoa q.num ++ 47 :: Lib.itoa q.den:=by unfold ratS;rw [if_neg h]
theorem ratB_int {q:Rat} (h:q.den=1):ratB q=itoaB q.num:=by unfold ratB;rw [ratS_int h];rfl
theorem itoaS_inj {x y:Int} (h:Lib.itoa x=Lib.itoa y):x=y:=itoa_inj (by unfold itoaB;rw [h])
theorem cut_rat (q:Rat):Lib.cut (ratS q) [47]=(Lib.itoa q.num,if q.den=1 then [] else Lib.itoa q.den,!decide (q.den=1)):=by
 by_cases h:q.den=1
 · rw [ratS_int h,cut_miss (nos_itoa _),if_pos h,decide_eq_true h];rfl
 · rw [ratS_frac h,cut_hit (nos_itoa _),if_neg h,decide_eq_false h];rfl
theorem ratS_inj {p q:Rat} (h:ratS p=ratS q):p=q:=by
 have h1:=cut_rat p
 rw [h,cut_rat q] at h1
 injection h1 with e1 e2
 injection e2 with e2 e3
 have n:=itoaS_inj e1
 by_cases hp:p.den=1
 · have hq:q.den=1:=by simpa [hp] using e3
   exact Rat.ext n.symm (by rw [hp,hq])
 · have hq:¬ q.den=1:=by intro hq;simp [hp,hq] at e3
   rw [if_neg hp,if_neg hq] at e2
   have:=itoaS_inj e2
   exact Rat.ext n.symm (by omega)
theorem ratB_inj {p q:Rat} (h:ratB p=ratB q):p=q:=ratS_inj (by have:=congrArg (·.data.toList) h;exact this)
theorem dlen_pos (x:Int):0 < dlen x:=by unfold dlen;exact List.length_pos_iff.2 (decDigits_ne _)
theorem dlen_one : dlen ((1:Nat):Int)=1:=by decide +kernel
theorem ratS_len (q:Rat):dlen q.num≤(ratS q).length∧dlen (q.den:Int)≤(ratS q).length∧(ratS q).length≤dlen q.num+dlen (q.den:Int)+3:=by
 have h1:=itoa_len q.num
 have h2:=itoa_len (q.den:Int)
 rw [if_neg (by omega)] at h2
 have h3:=dlen_pos q.num
 by_cases h:q.den=1
 · rw [ratS_int h]
   have:dlen (q.den:Int)=1:=by rw [h];exact dlen_one
   split at h1 <;> omega
 · rw [ratS_frac h,List.length_append,List.length_cons]
   split at h1 <;> omega
theorem ratB_size (q:Rat):(ratB q).size=(ratS q).length:=strOf_size _
theorem size_of_RL {q:Rat} {K:Nat} (h:RL q K):(ratB q).size≤2*K+3:=by
 have:=ratS_len q;obtain ⟨h1,h2⟩:=h;rw [ratB_size];omega
def IsRat (l:List UInt8):Prop:=∃ q:Rat,l=ratS q∧RL q 200
theorem rightB_iff {l:List UInt8}:rightB l=true↔∃ x:Int,l=Lib.itoa x∧dlen x≤200:=by
 constructor
 · intro h
   unfold rightB at h
   rw [Bool.and_eq_true,decide_eq_true_eq] at h
   obtain ⟨x,e,d⟩:=canon_is_itoa h.1
   exact ⟨x,e,by omega⟩
 · rintro ⟨x,rfl,d⟩
   unfold rightB
   rw [canon_itoa,mag_itoa,Bool.true_and,decide_eq_true_eq]
   exact d
theorem isRat_nos {l:List UInt8} (h:(47:UInt8) ∉ l):IsRat l↔rightB l=true:=by
 rw [rightB_iff]
 constructor
 · rintro ⟨q,rfl,hq⟩
   by_cases hd:q.den=1
   · exact ⟨q.num,ratS_int hd,hq.1⟩
   · exact absurd (by rw [ratS_frac hd];simp) h
 · rintro ⟨x,rfl,d⟩
   exact ⟨(x:Rat),(ratS_int (q:=(x:Rat)) rfl).symm,d,by show dlen ((1:Nat):Int)≤200;rw [dlen_one];decide⟩
theorem isRat_slash {a b:List UInt8} (h:(47:UInt8) ∉ a) :
   IsRat (a ++ 47 :: b)↔∃ x y:Int,a=Lib.itoa x∧b=Lib.itoa y∧dlen x≤200∧dlen y≤200∧x≠0∧1 < y∧Nat.gcd x.natAbs y.natAbs=1:=by
 constructor
 · rintro ⟨q,e,hq⟩
   have e1:=cut_hit (b:=b) h
   rw [e,cut_rat q] at e1
   injection e1 with e1 e2
   injection e2 with e2 e3
   have hd:¬ q.den=1:=by simpa using e3
   rw [if_neg hd] at e2
   have hp:=q.den_pos
   refine ⟨q.num,q.den,e1.symm,e2.symm,hq.1,hq.2,fun h0=>hd ?_,by omega,q.reduced⟩
   have hr:Nat.gcd q.num.natAbs q.den=1:=q.reduced
   rw [h0] at hr
   simpa using hr
 · rintro ⟨x,y,rfl,rfl,dx,dy,x0,y1,hg⟩
   refine ⟨⟨x,y.natAbs,by omega,hg⟩,?_,dx,?_⟩
   · have hy:((y.natAbs:Nat):Int)=y:=by omega
     rw [ratS_frac (by show ¬ y.natAbs=1;omega)]
     show _=_ ++ 47 :: Lib.itoa ((y.natAbs:Nat):Int)
     rw [hy]
   · show dlen ((y.natAbs:Nat):Int)≤200
     rwa [show ((y.natAbs:Nat):Int)=y by omega]
theorem div_lift (a s k:Nat) (h:k ∣ a):(a*s) / k=(a / k)*s:=by
 obtain ⟨t,rfl⟩:=h
 rcases Nat.eq_zero_or_pos k with h0 | h0
 · subst h0;simp
 · rw [Nat.mul_assoc,Nat.mul_div_cancel_left _ h0,Nat.mul_div_cancel_left _ h0]
theorem add_parts (p q:Rat) (g share again:Nat) (num:Int) (hg:Nat.gcd p.den q.den=g) (hs:q.den / g=share)
   (hn:p.num*(share:Int)+q.num*((p.den / g:Nat):Int)=num) (ha:Nat.gcd num.natAbs g=again) :
   (p+q).num=num / (again:Int)∧(p+q).den=(p.den / again)*share:=by
 have g0:0 < g:=by rw [← hg];exact Nat.gcd_pos_of_pos_left _ p.den_pos
 have gp:g ∣ p.den:=by rw [← hg];exact Nat.gcd_dvd_left ..
 have gq:g ∣ q.den:=by rw [← hg];exact Nat.gcd_dvd_right ..
 have aux:=Rat.add.aux p q hg.symm rfl hs.symm
 have e1:p.den / g*g=p.den:=Nat.div_mul_cancel gp
 have e2:share*g=q.den:=by rw [← hs];exact Nat.div_mul_cancel gq
 simp only at aux
 rw [hn,ha] at aux
 have d0:p.den / g*q.den≠0:=Nat.mul_ne_zero (fun h=>by rw [h] at e1;have:=p.den_pos;omega) q.den_nz
 have key:p+q=Rat.normalize num (p.den / g*q.den) d0:=by
   rw [Rat.add_def,← Rat.normalize_mul_left (a:=g) d0 (by omega)]
   congr 1
   · rw [← hn,Int.mul_add]
     congr 1
     · rw [← e2];simp [Int.mul_comm,Int.mul_left_comm]
     · conv=>lhs;rw [← e1]
       simp [Int.mul_comm,Int.mul_left_comm]
   · conv=>lhs;rw [← e1]
     simp [Nat.mul_comm,Nat.mul_left_comm]
 rw [key]
 refine ⟨by rw [Rat.num_normalize,← aux],?_⟩
 rw [Rat.den_normalize,← aux]
 have e3:p.den / g*q.den=p.den*share:=by
   rw [← e2]
   calc p.den / g*(share*g)=(p.den / g*g)*share:=by simp [Nat.mul_comm,Nat.mul_left_comm]
     _=p.den*share:=by rw [e1]
 rw [e3]
 exact div_lift _ _ _ (Nat.dvd_trans (by rw [← ha];exact Nat.gcd_dvd_right ..) gp)
theorem mul_parts (p q:Rat):(p*q).num=p.num / ((Nat.gcd p.num.natAbs q.den:Nat):Int)*(q.num / ((Nat.gcd q.num.natAbs p.den:Nat):Int)) ∧
   (p*q).den=p.den / Nat.gcd q.num.natAbs p.den*(q.den / Nat.gcd p.num.natAbs q.den):=by
 have h1:p.num.tdiv ((Nat.gcd p.num.natAbs q.den:Nat):Int)=p.num / ((Nat.gcd p.num.natAbs q.den:Nat):Int):=
   Int.tdiv_eq_ediv_of_dvd (Int.ofNat_dvd_left.2 (Nat.gcd_dvd_left ..))
 have h2:q.num.tdiv ((Nat.gcd q.num.natAbs p.den:Nat):Int)=q.num / ((Nat.gcd q.num.natAbs p.den:Nat):Int):=
   Int.tdiv_eq_ediv_of_dvd (Int.ofNat_dvd_left.2 (Nat.gcd_dvd_left ..))
 show (Rat.mul p q).num=_∧(Rat.mul p q).den=_
 unfold Rat.mul
 simp only [Int.divExact_eq_tdiv,Nat.divExact_eq_div]
 exact ⟨by rw [h1,h2],trivial⟩
theorem mk_sign (n d:Int) (hd:0 < d):(Rat.divInt n d).num.sign=n.sign:=by
 have h1:=Rat.num_divInt n d
 rw [Int.sign_eq_one_of_pos hd,Int.one_mul] at h1
 have hg:(0:Int) < ((d.gcd n:Nat):Int):=by
   have:=Int.gcd_pos_of_ne_zero_left (a:=d) n (by omega);omega
 have hdv:((d.gcd n:Nat):Int) ∣ n:=Int.gcd_dvd_right ..
 obtain ⟨k,hk⟩:=hdv
 have e:(Rat.divInt n d).num=k:=by
   rw [h1]
   conv=>lhs;lhs;rw [hk]
   exact Int.mul_ediv_cancel_left _ (by omega)
 rw [e,hk,Int.sign_mul,Int.sign_eq_one_of_pos hg,Int.one_mul]
theorem sub_sign (p q:Rat):(p - q).num.sign=(p.num*q.den - q.num*p.den).sign:=by
 rw [Rat.sub_def',← Rat.divInt_ofNat]
 exact mk_sign _ _ (by have:=Nat.mul_pos p.den_pos q.den_pos;omega)
theorem add_mk (p q:Rat):Rat.divInt (p.num*q.den+q.num*p.den) ((p.den*q.den:Nat):Int)=p+q:=by
 rw [Rat.add_def',Rat.divInt_ofNat]
theorem mul_mk (p q:Rat):Rat.divInt (p.num*q.num) ((p.den*q.den:Nat):Int)=p*q:=by
 rw [Rat.mul_def',Rat.divInt_ofNat]
theorem cat_slash (a b:ByteArray):(a ++ ⟨#[47]⟩ ++ b).data.toList=a.data.toList ++ 47 :: b.data.toList:=by
 rw [ByteArray.data_append,ByteArray.data_append,Array.toList_append,Array.toList_append]
 show (_ ++ [47]) ++ _=_
 rw [List.append_assoc];rfl
theorem ratB_more {q:Rat} (h:q.den≠1):ratB q=itoaB q.num ++ ⟨#[47]⟩ ++ itoaB q.den:=by
 refine dat_inj ?_
 show ratS q=_
 rw [ratS_frac h,cat_slash];rfl
theorem ratS_zero : ratS 0=[48]:=by decide +kernel
theorem ratB_zero : ratB 0=⟨#[48]⟩:=by unfold ratB;rw [ratS_zero];rfl
theorem ratB_eq_zero (q:Rat):((ratB q).toList == [48])=decide (q=0):=by
 rw [Bool.eq_iff_iff,beq_iff_eq,decide_eq_true_iff,Lib.toList_data]
 constructor
 · intro h;refine ratS_inj ?_;rw [ratS_zero];exact h
 · rintro rfl;rw [ratB_zero]
theorem dlen_lt (x:Int) (K:Nat) (h:dlen x≤K):x.natAbs < 10 ^ K:=Nat.lt_of_lt_of_le (dig_lt x.natAbs) (Nat.pow_le_pow_right (by decide) h)
theorem dlen_le (x:Int) (K:Nat) (hK:0 < K) (h:x.natAbs < 10 ^ K):dlen x≤K:=dec_len_le _ _ h hK
end Go.Proofs.YtpiiclmkbplkhaaGreatDoor.Kl
namespace Go.Proofs.YtpiiclmkbplkhaaGreatDoor.Kl
open Go Go.RowKit
set_option maxRecDepth 100000
set_option maxHeartbeats 8000000
structure EnvR (w:World):Prop where
 env:Env w
 ml:∃ m,w.cell? ⟨1,0,none⟩=some (.int .i64 m)
theorem EnvR.below {w w':World} (h:EnvR w) (hb:Below w.heap.size w w'):EnvR w':=
 ⟨h.env.below hb,h.ml.imp fun m hm=>by rw [hb.cell (p:=⟨1,0,none⟩) (Lib.lt_of_cell hm)];exact hm⟩
@[reducible] def CR (f : FuncId) (args : Array Value) (v : Value) : Prop := ∀ w, EnvR w → Calls Tryz.prog f args w (Ret w v)
theorem chRC {f:FuncId} {args:Array Value} {v:Value} {w0 w:World} (hb:Below w0.heap.size w0 w) (R:EnvR w0) (C:Hid (∀ w,EnvR w→Calls Tryz.prog f args w (Ret w v))):Calls Tryz.prog f args w fun e w' => e = .returned v∧Below w.heap.size w w'∧Below w0.heap.size w0 w':=chain2 hb (C.out _ (R.below hb))
theorem chRA {f:FuncId} {args:Array Value} {v:Value} {w0 w:World} (hb:Below w0.heap.size w0 w) (R:EnvR w0) (C:Hid (∀ w,EnvR w→Calls Tryz.prog f args w (Ret w v))):Calls Tryz.prog f args w fun e w' => e = .returned v∧Below w0.heap.size w0 w':=chain hb (C.out _ (R.below hb))
theorem cut_call (s sep a b:ByteArray) (f:Bool) (h:Lib.cut s.data.toList sep.data.toList=(a.data.toList,b.data.toList,f)) (hs:s.size≤1000000) (w:World) (R:EnvR w) :
   Calls Tryz.prog 72 #[.string s,.string sep] w (Ret w (.tuple #[.string a,.string b,.bool f])):=by
 obtain ⟨m,hm⟩:=R.ml
 refine (Tryz.strings_Cut s sep m w (by omega) hm).mono ?_
 rintro e w' ⟨he,n,rfl⟩
 refine ⟨?_,below_drewN w n⟩
 rw [he,h]
theorem itoa_one : itoaB 1=⟨#[49]⟩:=by decide +kernel
theorem str_one (y:Int):((itoaB y).toList == [49])=decide (y=1):=by
 rw [Bool.eq_iff_iff,beq_iff_eq,decide_eq_true_iff,Lib.toList_data]
 constructor
 · intro h
   refine itoa_inj (dat_inj ?_)
   rw [h,itoa_one]
 · rintro rfl
   rw [itoa_one]
theorem str_zero (y:Int):((itoaB y).toList == [48])=decide (y=0):=by
 rw [Bool.eq_iff_iff,beq_iff_eq,decide_eq_true_iff,← itoa_eq_zero,Lib.toList_data]
 exact ⟨fun h=>dat_inj h,fun h=>by rw [h]⟩
theorem cut_ratB (q:Rat) (w:World) (R:EnvR w) (hq:RL q 100000) :
   Calls Tryz.prog 72 #[.string (ratB q),.string ⟨#[47]⟩] w (Ret w (.tuple #[.string (itoaB q.num),.string (if q.den=1 then ⟨#[]⟩ else itoaB q.den),.bool (!decide (q.den=1))])):=by
 have:=size_of_RL hq
 refine cut_call _ _ _ _ _ ?_ (by omega) w R
 show Lib.cut (ratS q) [47]=_
 rw [cut_rat]
 by_cases h:q.den=1
 · rw [if_pos h,if_pos h];rfl
 · rw [if_neg h,if_neg h];rfl
theorem rparts_cut (s a b r1 r2:ByteArray) (f:Bool) (hc:CR 72 #[.string s,.string ⟨#[47]⟩] (.tuple #[.string a,.string b,.bool f])) (h1:f=true→r1=a∧r2=b) (h2:f=false→r1=s∧r2=⟨#[49]⟩) (w:World) (R:EnvR w) :
   Calls Tryz.prog 68 #[.string s] w (Ret w (.tuple #[.string r1,.string r2])):=by
 have C1:=Lib.hid hc
 clear hc
 have hb:=Below.refl w.heap.size w
 cases f
 · obtain ⟨rfl,rfl⟩:=h2 rfl
   clear h1 h2
   go_enter Tryz.func68,Tryz.ntmps68
   go_wp2_with (go_at_call 72;refine (chain hb (C1.out _ (R.below hb))).mono ?_;clear hb;rintro e w1 ⟨rfl,hb⟩)
   go_ret2
   exact ⟨rfl,hb⟩
 · obtain ⟨rfl,rfl⟩:=h1 rfl
   clear h1 h2
   go_enter Tryz.func68,Tryz.ntmps68
   go_wp2_with (go_at_call 72;refine (chain hb (C1.out _ (R.below hb))).mono ?_;clear hb;rintro e w1 ⟨rfl,hb⟩)
   go_ret2
   exact ⟨rfl,hb⟩
theorem rparts_any (q:Rat) (w:World) (R:EnvR w) (hq:RL q 100000) :
   Calls Tryz.prog 68 #[.string (ratB q)] w (Ret w (.tuple #[.string (itoaB q.num),.string (itoaB q.den)])):=by
 refine rparts_cut (ratB q) _ _ _ _ _ (fun w R=>cut_ratB q w R hq) (fun h=>?_) (fun h=>?_) w R
 · have hd:q.den≠1:=by simpa using h
   exact ⟨rfl,by rw [if_neg hd]⟩
 · have hd:q.den=1:=by simpa using h
   exact ⟨(ratB_int hd).symm,by rw [hd];exact itoa_one⟩
theorem over_one (a b:ByteArray) (h1:(b.toList == [49])=true) (w:World) (_R:EnvR w) :
   Calls Tryz.prog 100 #[.string a,.string b] w (Ret w (.string a)):=by
 have hb:=Below.refl w.heap.size w
 go_enter Tryz.func100,Tryz.ntmps100
 go_wp2
 go_ret
 exact ⟨rfl,hb⟩
theorem over_more (x y:Int) (hx:dlen x≤40000) (hy:dlen y≤40000) (hy0:y≠0) (hy1:y≠1) (w:World) (R:EnvR w) :
   Calls Tryz.prog 100 #[.string (itoaB x),.string (itoaB y)] w (Ret w (.string (itoaB (x / y)))):=by
 have c1:=fun (w:World) (R:EnvR w)=>divMod_any x y w R.env hx hy hy0
 have h1:((itoaB y).toList == [49])=false:=by rw [str_one,decide_eq_false hy1]
 obtain ⟨q,eq⟩:∃ v,itoaB (x / y)=v:=⟨_,rfl⟩
 try simp only [eq] at c1 h1 ⊢
 obtain ⟨r,er⟩:∃ v,itoaB (x % y)=v:=⟨_,rfl⟩
 try simp only [er] at c1 h1 ⊢
 obtain ⟨a,ea⟩:∃ v,itoaB x=v:=⟨_,rfl⟩
 try simp only [ea] at c1 h1 ⊢
 obtain ⟨b,eb⟩:∃ v,itoaB y=v:=⟨_,rfl⟩
 try simp only [eb] at c1 h1 ⊢
 have C1:=Lib.hid c1
 clear c1 eq er ea eb hx hy hy0 hy1
 have hb:=Below.refl w.heap.size w
 go_enter Tryz.func100,Tryz.ntmps100
 go_wp2_with (go_at_call 126;with_reducible refine (chRA hb R C1).mono ?_;clear hb;rintro e w1 ⟨rfl,hb⟩)
 go_ret
 exact ⟨rfl,hb⟩
theorem over_any (x y:Int) (w:World) (R:EnvR w) (hx:dlen x≤40000) (hy:dlen y≤40000) (hy0:y≠0) :
   Calls Tryz.prog 100 #[.string (itoaB x),.string (itoaB y)] w (Ret w (.string (itoaB (x / y)))):=by
 by_cases h:y=1
 · subst h
   rw [Int.ediv_one]
   exact over_one _ _ (by rw [str_one];rfl) w R
 · exact over_more x y hx hy hy0 h w R
theorem join_one (a b:ByteArray) (h1:(b.toList == [49])=true) (w:World) (_R:EnvR w) :
   Calls Tryz.prog 69 #[.string a,.string b] w (Ret w (.string a)):=by
 have hb:=Below.refl w.heap.size w
 go_enter Tryz.func69,Tryz.ntmps69
 go_wp2
 go_ret
 exact ⟨rfl,hb⟩
theorem join_more (a b:ByteArray) (h1:(b.toList == [49])=false) (ha:a.size≤100001) (hb':b.size≤100001) (w:World) (_R:EnvR w) :
   Calls Tryz.prog 69 #[.string a,.string b] w (Ret w (.string (a ++ ⟨#[47]⟩ ++ b))):=by
 have hb:=Below.refl w.heap.size w
 go_enter Tryz.func69,Tryz.ntmps69
 go_wp2
 go_ret
 exact ⟨rfl,hb⟩
theorem join_any (q:Rat) (x y:Int) (hx:q.num=x) (hy:(q.den:Int)=y) (w:World) (R:EnvR w) (hq:RL q 100000) :
   Calls Tryz.prog 69 #[.string (itoaB x),.string (itoaB y)] w (Ret w (.string (ratB q))):=by
 subst hx hy
 by_cases h:q.den=1
 · rw [ratB_int h]
   exact join_one _ _ (by rw [str_one,h];rfl) w R
 · have e:ratB q=itoaB q.num ++ ⟨#[47]⟩ ++ itoaB q.den:=by
     refine dat_inj ?_
     show ratS q=_
     rw [ratS_frac h,ByteArray.data_append,ByteArray.data_append,Array.toList_append,Array.toList_append]
     show _=(Lib.itoa q.num ++ [47]) ++ Lib.itoa q.den
     rw [List.append_assoc];rfl
   rw [e]
   exact join_more _ _ (by rw [str_one];exact decide_eq_false (by omega)) (itoaB_size _ hq.1) (itoaB_size _ hq.2) w R
theorem rsign_any (q:Rat) (hq:RL q 100000) (w:World) (R:EnvR w) :
   Calls Tryz.prog 54 #[.string (ratB q)] w (Ret w (.int .i64 q.num.sign)):=by
 have c1:=fun (w:World) (R:EnvR w)=>rparts_any q w R hq
 have c2:CR 86 #[.string (itoaB q.num)] (.int .i64 q.num.sign):=fun w R=>sign_any _ w
 obtain ⟨z,ez⟩:∃ v,q.num.sign=v:=⟨_,rfl⟩
 try simp only [ez] at c1 c2 ⊢
 obtain ⟨a,ea⟩:∃ v,itoaB q.num=v:=⟨_,rfl⟩
 try simp only [ea] at c1 c2 ⊢
 obtain ⟨b,eb⟩:∃ v,itoaB q.den=v:=⟨_,rfl⟩
 try simp only [eb] at c1 c2 ⊢
 obtain ⟨s,es⟩:∃ v,ratB q=v:=⟨_,rfl⟩
 try simp only [es] at c1 c2 ⊢
 have C1:=Lib.hid c1
 have C2:=Lib.hid c2
 clear c1 c2 ez ea eb es hq
 have hb:=Below.refl w.heap.size w
 go_enter Tryz.func54,Tryz.ntmps54
 go_wp2_with ((first | (go_at_call 68;with_reducible refine (chRA hb R C1).mono ?_) | (go_at_call 86;with_reducible refine (chRA hb R C2).mono ?_));clear hb;rintro e w1 ⟨rfl,hb⟩)
 go_ret
 exact ⟨rfl,hb⟩
theorem rneg_any (q:Rat) (hq:RL q 40000) (w:World) (R:EnvR w) :
   Calls Tryz.prog 39 #[.string (ratB q)] w (Ret w (.string (ratB (-q)))):=by
 have c1:=fun (w:World) (R:EnvR w)=>rparts_any q w R (hq.mono (by decide))
 have c2:CR 70 #[.string (itoaB q.num)] (.string (itoaB (-q.num))):=fun w R=>neg_any _ w (Nat.le_trans hq.1 (by decide))
 have c3:CR 69 #[.string (itoaB (-q.num)),.string (itoaB q.den)] (.string (ratB (-q))):=fun w R=>join_any (-q) _ _ rfl rfl w R ⟨by show dlen (-q.num)≤_;rw [dlen_neg];exact Nat.le_trans hq.1 (by decide),Nat.le_trans hq.2 (by decide)⟩
 obtain ⟨r,er⟩:∃ v,ratB (-q)=v:=⟨_,rfl⟩
 try simp only [er] at c1 c2 c3 ⊢
 obtain ⟨n,en⟩:∃ v,itoaB (-q.num)=v:=⟨_,rfl⟩
 try simp only [en] at c1 c2 c3 ⊢
 obtain ⟨a,ea⟩:∃ v,itoaB q.num=v:=⟨_,rfl⟩
 try simp only [ea] at c1 c2 c3 ⊢
 obtain ⟨b,eb⟩:∃ v,itoaB q.den=v:=⟨_,rfl⟩
 try simp only [eb] at c1 c2 c3 ⊢
 obtain ⟨s,es⟩:∃ v,ratB q=v:=⟨_,rfl⟩
 try simp only [es] at c1 c2 c3 ⊢
 have C1:=Lib.hid c1
 have C2:=Lib.hid c2
 have C3:=Lib.hid c3
 clear c1 c2 c3 er en ea eb es hq
 have hb:=Below.refl w.heap.size w
 go_enter Tryz.func39,Tryz.ntmps39
 go_wp2_with ((first | (go_at_call 68;with_reducible refine (chRA hb R C1).mono ?_) | (go_at_call 70;with_reducible refine (chRA hb R C2).mono ?_) | (go_at_call 69;with_reducible refine (chRA hb R C3).mono ?_));clear hb;rintro e w1 ⟨rfl,hb⟩)
 go_ret
 exact ⟨rfl,hb⟩
theorem rwhole_any (n:Int) (h0 : -9223372036854775808≤n) (h1:n≤9223372036854775807) (w:World) (R:EnvR w) :
   Calls Tryz.prog 71 #[.int .i64 n] w (Ret w (.string (itoaB n))):=by
 have c1:=fun (w:World) (R:EnvR w)=>of_any n h0 h1 w R.env
 obtain ⟨a,ea⟩:∃ v,itoaB n=v:=⟨_,rfl⟩
 try simp only [ea] at c1 ⊢
 have C1:=Lib.hid c1
 clear c1 ea
 have hb:=Below.refl w.heap.size w
 go_enter Tryz.func71,Tryz.ntmps71
 go_wp2_with (go_at_call 89;with_reducible refine (chRA hb R C1).mono ?_;clear hb;rintro e w1 ⟨rfl,hb⟩)
 go_ret
 exact ⟨rfl,hb⟩
theorem ratB_of (q:Rat) (x y:Int) (hx:q.num=x) (hy:(q.den:Int)=y):ratB q=if y=1 then itoaB x else itoaB x ++ ⟨#[47]⟩ ++ itoaB y:=by
 subst hx hy
 by_cases h:q.den=1
 · rw [if_pos (by omega),ratB_int h]
 · rw [if_neg (by omega),ratB_more h]
theorem gcd_pos_den {n d:Int} (hd:0 < d):0 < ((Nat.gcd n.natAbs d.natAbs:Nat):Int):=by
 have:=Nat.gcd_pos_of_pos_right n.natAbs (show 0 < d.natAbs by omega);omega
theorem mk_parts (n d:Int) (hd:0 < d):(Rat.divInt n d).num=n / ((Nat.gcd n.natAbs d.natAbs:Nat):Int)∧((Rat.divInt n d).den:Int)=d / ((Nat.gcd n.natAbs d.natAbs:Nat):Int):=by
 have h1:=Rat.num_divInt n d
 have h2:=Rat.den_divInt n d
 rw [Int.sign_eq_one_of_pos hd,Int.one_mul] at h1
 rw [if_neg (by omega)] at h2
 have e:d.gcd n=Nat.gcd n.natAbs d.natAbs:=Nat.gcd_comm ..
 rw [e] at h1 h2
 refine ⟨h1,?_⟩
 rw [h2,Int.natCast_ediv,show ((d.natAbs:Nat):Int)=d by omega]
theorem dlen_div (x:Int) (g:Nat) (K:Nat) (hK:0 < K) (h:dlen x≤K) (hg:(g:Int) ∣ x):dlen (x / (g:Int))≤K:=by
 unfold dlen at *
 refine dec_len_le _ _ (Nat.lt_of_le_of_lt ?_ (Nat.lt_of_lt_of_le (dig_lt x.natAbs) (Nat.pow_le_pow_right (by decide) h))) hK
 rw [Int.natAbs_ediv_of_dvd hg]
 exact Nat.div_le_self _ _
theorem dlen_gcd (n d:Int) (K:Nat) (hK:0 < K) (hd:0 < d) (h:dlen d≤K):dlen ((Nat.gcd n.natAbs d.natAbs:Nat):Int)≤K:=
 dlen_nat_le _ d K hK (Nat.gcd_le_right _ (by omega)) h
theorem gcd_dvd1 (n d:Int):((Nat.gcd n.natAbs d.natAbs:Nat):Int) ∣ n:=Int.ofNat_dvd_left.2 (Nat.gcd_dvd_left ..)
theorem gcd_dvd2 (n d:Int):((Nat.gcd n.natAbs d.natAbs:Nat):Int) ∣ d:=Int.ofNat_dvd_left.2 (Nat.gcd_dvd_right ..)
theorem RL_mk (n d:Int) (K:Nat) (hK:0 < K) (hd:0 < d) (hn:dlen n≤K) (hdl:dlen d≤K):RL (Rat.divInt n d) K:=by
 obtain ⟨h1,h2⟩:=mk_parts n d hd
 exact ⟨by rw [h1];exact dlen_div _ _ _ hK hn (gcd_dvd1 ..),by rw [h2];exact dlen_div _ _ _ hK hdl (gcd_dvd2 ..)⟩
theorem rnew_pos (n d:Int) (hn:dlen n≤40000) (hdl:dlen d≤40000) (hd:0 < d) (w:World) (R:EnvR w) :
   Calls Tryz.prog 88 #[.string (itoaB n),.string (itoaB d)] w (Ret w (.tuple #[.string (ratB (Rat.divInt n d)),.int .i64 0])):=by
 have c1:CR 86 #[.string (itoaB d)] (.int .i64 1):=fun w R=>by have:=sign_any d w;rwa [Int.sign_eq_one_of_pos hd] at this
 have c2:CR 75 #[.string (itoaB (n)),.string (itoaB (d))] (.string (itoaB ((Nat.gcd (n).natAbs (d).natAbs:Nat):Int))):=fun w R=>gcd_any _ _ w R.env hn hdl
 have c3:CR 100 #[.string (itoaB (n)),.string (itoaB ((Nat.gcd (n).natAbs (d).natAbs:Nat):Int))] (.string (itoaB ((n) / ((Nat.gcd (n).natAbs (d).natAbs:Nat):Int)))):=fun w R=>over_any _ _ w R hn (dlen_gcd _ _ _ (by decide) hd hdl) (by have:=gcd_pos_den (n:=n) hd;omega)
 have c4:CR 100 #[.string (itoaB (d)),.string (itoaB ((Nat.gcd (n).natAbs (d).natAbs:Nat):Int))] (.string (itoaB ((d) / ((Nat.gcd (n).natAbs (d).natAbs:Nat):Int)))):=fun w R=>over_any _ _ w R hdl (dlen_gcd _ _ _ (by decide) hd hdl) (by have:=gcd_pos_den (n:=n) hd;omega)
 have c5:CR 69 #[.string (itoaB ((n) / ((Nat.gcd (n).natAbs (d).natAbs:Nat):Int))),.string (itoaB ((d) / ((Nat.gcd (n).natAbs (d).natAbs:Nat):Int)))] (.string (ratB (Rat.divInt n d))):=fun w R=>join_any _ _ _ (mk_parts _ _ hd).1 (mk_parts _ _ hd).2 w R ((RL_mk _ _ _ (by decide) hd hn hdl).mono (by decide))
 obtain ⟨q,eq⟩:∃ v,ratB (Rat.divInt n d)=v:=⟨_,rfl⟩
 try simp only [eq] at c1 c2 c3 c4 c5 ⊢
 obtain ⟨c,ec⟩:∃ v,itoaB (n / ((Nat.gcd n.natAbs d.natAbs:Nat):Int))=v:=⟨_,rfl⟩
 try simp only [ec] at c1 c2 c3 c4 c5 ⊢
 obtain ⟨f,ef⟩:∃ v,itoaB (d / ((Nat.gcd n.natAbs d.natAbs:Nat):Int))=v:=⟨_,rfl⟩
 try simp only [ef] at c1 c2 c3 c4 c5 ⊢
 obtain ⟨g,eg⟩:∃ v,itoaB ((Nat.gcd n.natAbs d.natAbs:Nat):Int)=v:=⟨_,rfl⟩
 try simp only [eg] at c1 c2 c3 c4 c5 ⊢
 obtain ⟨a,ea⟩:∃ v,itoaB n=v:=⟨_,rfl⟩
 try simp only [ea] at c1 c2 c3 c4 c5 ⊢
 obtain ⟨b,eb⟩:∃ v,itoaB d=v:=⟨_,rfl⟩
 try simp only [eb] at c1 c2 c3 c4 c5 ⊢
 have C1:=Lib.hid c1
 have C2:=Lib.hid c2
 have C3:=Lib.hid c3
 have C4:=Lib.hid c4
 have C5:=Lib.hid c5
 clear c1 c2 c3 c4 c5 eq ec ef eg ea eb hn hdl hd
 have hb:=Below.refl w.heap.size w
 go_enter Tryz.func88,Tryz.ntmps88
 go_wp2_with ((first | (go_at_call 86;with_reducible refine (chRA hb R C1).mono ?_) | (go_at_call 75;with_reducible refine (chRA hb R C2).mono ?_) | (go_at_call 100;first | with_reducible refine (chRA hb R C3).mono ?_ | with_reducible refine (chRA hb R C4).mono ?_) | (go_at_call 69;with_reducible refine (chRA hb R C5).mono ?_));clear hb;rintro e w1 ⟨rfl,hb⟩)
 go_ret2
 exact ⟨rfl,hb⟩
theorem rnew_neg (n d:Int) (hn':dlen n≤40000) (hdl':dlen d≤40000) (hd':d < 0) (w:World) (R:EnvR w) :
   Calls Tryz.prog 88 #[.string (itoaB n),.string (itoaB d)] w (Ret w (.tuple #[.string (ratB (Rat.divInt n d)),.int .i64 0])):=by
 have hd:0 < -d:=by omega
 have hn:dlen (-n)≤40000:=by rw [dlen_neg];exact hn'
 have hdl:dlen (-d)≤40000:=by rw [dlen_neg];exact hdl'
 have c1:CR 86 #[.string (itoaB d)] (.int .i64 (-1)):=fun w R=>by have:=sign_any d w;rwa [Int.sign_eq_neg_one_of_neg hd'] at this
 have c2:=fun (w:World) (R:EnvR w)=>neg_any n w (Nat.le_trans hn' (by decide))
 have c3:=fun (w:World) (R:EnvR w)=>neg_any d w (Nat.le_trans hdl' (by decide))
 have c4:CR 75 #[.string (itoaB (-n)),.string (itoaB (-d))] (.string (itoaB ((Nat.gcd (-n).natAbs (-d).natAbs:Nat):Int))):=fun w R=>gcd_any _ _ w R.env hn hdl
 have c5:CR 100 #[.string (itoaB (-n)),.string (itoaB ((Nat.gcd (-n).natAbs (-d).natAbs:Nat):Int))] (.string (itoaB ((-n) / ((Nat.gcd (-n).natAbs (-d).natAbs:Nat):Int)))):=fun w R=>over_any _ _ w R hn (dlen_gcd _ _ _ (by decide) hd hdl) (by have:=gcd_pos_den (n:=-n) hd;omega)
 have c6:CR 100 #[.string (itoaB (-d)),.string (itoaB ((Nat.gcd (-n).natAbs (-d).natAbs:Nat):Int))] (.string (itoaB ((-d) / ((Nat.gcd (-n).natAbs (-d).natAbs:Nat):Int)))):=fun w R=>over_any _ _ w R hdl (dlen_gcd _ _ _ (by decide) hd hdl) (by have:=gcd_pos_den (n:=-n) hd;omega)
 have c7:CR 69 #[.string (itoaB ((-n) / ((Nat.gcd (-n).natAbs (-d).natAbs:Nat):Int))),.string (itoaB ((-d) / ((Nat.gcd (-n).natAbs (-d).natAbs:Nat):Int)))] (.string (ratB (Rat.divInt n d))):=fun w R=>by have:=join_any (Rat.divInt (-n) (-d)) _ _ (mk_parts (-n) (-d) hd).1 (mk_parts (-n) (-d) hd).2 w R ((RL_mk _ _ _ (by decide) hd hn hdl).mono (by decide));rwa [Rat.neg_divInt_neg] at this
 obtain ⟨q,eq⟩:∃ v,ratB (Rat.divInt n d)=v:=⟨_,rfl⟩
 try simp only [eq] at c1 c2 c3 c4 c5 c6 c7 ⊢
 obtain ⟨c,ec⟩:∃ v,itoaB (-n / ((Nat.gcd (-n).natAbs (-d).natAbs:Nat):Int))=v:=⟨_,rfl⟩
 try simp only [ec] at c1 c2 c3 c4 c5 c6 c7 ⊢
 obtain ⟨f,ef⟩:∃ v,itoaB (-d / ((Nat.gcd (-n).natAbs (-d).natAbs:Nat):Int))=v:=⟨_,rfl⟩
 try simp only [ef] at c1 c2 c3 c4 c5 c6 c7 ⊢
 obtain ⟨g,eg⟩:∃ v,itoaB ((Nat.gcd (-n).natAbs (-d).natAbs:Nat):Int)=v:=⟨_,rfl⟩
 try simp only [eg] at c1 c2 c3 c4 c5 c6 c7 ⊢
 obtain ⟨u,eu⟩:∃ v,itoaB (-n)=v:=⟨_,rfl⟩
 try simp only [eu] at c1 c2 c3 c4 c5 c6 c7 ⊢
 obtain ⟨v,ev⟩:∃ v,itoaB (-d)=v:=⟨_,rfl⟩
 try simp only [ev] at c1 c2 c3 c4 c5 c6 c7 ⊢
 obtain ⟨a,ea⟩:∃ v,itoaB n=v:=⟨_,rfl⟩
 try simp only [ea] at c1 c2 c3 c4 c5 c6 c7 ⊢
 obtain ⟨b,eb⟩:∃ v,itoaB d=v:=⟨_,rfl⟩
 try simp only [eb] at c1 c2 c3 c4 c5 c6 c7 ⊢
 have C1:=Lib.hid c1
 have C2:=Lib.hid c2
 have C3:=Lib.hid c3
 have C4:=Lib.hid c4
 have C5:=Lib.hid c5
 have C6:=Lib.hid c6
 have C7:=Lib.hid c7
 clear c1 c2 c3 c4 c5 c6 c7 eq ec ef eg eu ev ea eb hn hdl hd hn' hdl' hd'
 have hb:=Below.refl w.heap.size w
 go_enter Tryz.func88,Tryz.ntmps88
 go_wp2_with ((first | (go_at_call 86;with_reducible refine (chRA hb R C1).mono ?_) | (go_at_call 70;first | with_reducible refine (chRA hb R C2).mono ?_ | with_reducible refine (chRA hb R C3).mono ?_) | (go_at_call 75;with_reducible refine (chRA hb R C4).mono ?_) | (go_at_call 100;first | with_reducible refine (chRA hb R C5).mono ?_ | with_reducible refine (chRA hb R C6).mono ?_) | (go_at_call 69;with_reducible refine (chRA hb R C7).mono ?_));clear hb;rintro e w1 ⟨rfl,hb⟩)
 go_ret2
 exact ⟨rfl,hb⟩
theorem rnew_any (n d:Int) (w:World) (R:EnvR w) (hn:dlen n≤40000) (hdl:dlen d≤40000) (hd:d≠0) :
   Calls Tryz.prog 88 #[.string (itoaB n),.string (itoaB d)] w (Ret w (.tuple #[.string (ratB (Rat.divInt n d)),.int .i64 0])):=by
 by_cases h:0 < d
 · exact rnew_pos n d hn hdl h w R
 · exact rnew_neg n d hn hdl (by omega) w R
theorem dlen_int (n:Int) (h0 : -9223372036854775808≤n) (h1:n≤9223372036854775807):dlen n≤30:=by
 unfold dlen
 exact dec_len_le _ _ (show n.natAbs < 10 ^ 30 by omega) (by decide)
theorem rb_eq (a b:ByteArray):(a.toList == b.toList)=decide (a=b):=by
 rw [Bool.eq_iff_iff,beq_iff_eq,decide_eq_true_iff,Lib.toList_data,Lib.toList_data]
 exact ⟨dat_inj,fun h=>by rw [h]⟩
theorem RL_neg {q:Rat} {K:Nat} (h:RL q K):RL (-q) K:=⟨by show dlen (-q.num)≤K;rw [dlen_neg];exact h.1,h.2⟩
theorem RL_add {p q:Rat} {K M:Nat} (hK:0 < K) (hp:RL p K) (hq:RL q M):RL (p+q) (K+M+1):=by
 rw [← add_mk]
 have:=Nat.mul_pos p.den_pos q.den_pos
 refine RL_mk _ _ _ (by omega) (by omega) (dlen_add _ _ _ (by omega) (dlen_mul _ _ _ _ (by omega) hp.1 hq.2) ?_) (by rw [Int.natCast_mul];exact Nat.le_trans (dlen_mul _ _ _ _ (by omega) hp.2 hq.2) (by omega))
 rw [Nat.add_comm]
 exact dlen_mul _ _ _ _ (by omega) hq.1 hp.2
theorem RL_inv {q:Rat} {K:Nat} (h:RL q K) (h0:q.num≠0):RL q⁻¹ K:=by
 refine ⟨?_,?_⟩
 · rw [Rat.num_inv]
   have:(q.num.sign*(q.den:Int)).natAbs=(q.den:Int).natAbs:=by
     rw [Int.natAbs_mul,Int.natAbs_sign_of_ne_zero h0,Nat.one_mul]
   have h2:=h.2
   unfold dlen at h2 ⊢;rw [this];exact h2
 · rw [Rat.den_inv,if_neg h0]
   have h1:=h.1
   unfold dlen at h1 ⊢;rwa [Int.natAbs_natCast]
theorem split_right {a b:List UInt8} (h1:rightB a=true) (h2:rightB b=true):∃ x y:Int,strOf a=itoaB x∧strOf b=itoaB y∧dlen x≤200∧dlen y≤200 ∧
   (∀ _h:(47:UInt8) ∉ a,IsRat (a ++ 47 :: b)↔x≠0∧1 < y∧Nat.gcd x.natAbs y.natAbs=1):=by
 obtain ⟨x,e1,d1⟩:=rightB_iff.1 h1
 obtain ⟨y,e2,d2⟩:=rightB_iff.1 h2
 refine ⟨x,y,by rw [e1];rfl,by rw [e2];rfl,d1,d2,fun h=>?_⟩
 rw [isRat_slash h]
 constructor
 · rintro ⟨x',y',f1,f2,_,_,g⟩
   rw [itoaS_inj (e1.symm.trans f1),itoaS_inj (e2.symm.trans f2)]
   exact g
 · intro g
   exact ⟨x,y,e1,e2,d1,d2,g⟩
theorem check_a (s a b:ByteArray) (f:Bool) (c1':CR 72 #[.string s,.string ⟨#[47]⟩] (.tuple #[.string a,.string b,.bool f])) (c2':CR 73 #[.string a] (.int .i64 2)) (w:World) (R:EnvR w) :
   Calls Tryz.prog 41 #[.string s] w (Ret w (.int .i64 2)):=by
 have c1:=c1'
 have c2:=c2'
 have C1:=Lib.hid c1
 have C2:=Lib.hid c2
 clear c1 c2 c1' c2'
 have hb:=Below.refl w.heap.size w
 go_enter Tryz.func41,Tryz.ntmps41
 go_wp2_with ((first | (go_at_call 72;with_reducible refine (chRA hb R C1).mono ?_) | (go_at_call 73;with_reducible refine (chRA hb R C2).mono ?_));clear hb;rintro e w1 ⟨rfl,hb⟩)
 go_ret
 exact ⟨rfl,hb⟩
theorem check_b (s a b:ByteArray) (c1':CR 72 #[.string s,.string ⟨#[47]⟩] (.tuple #[.string a,.string b,.bool false])) (c2':CR 73 #[.string a] (.int .i64 0)) (w:World) (R:EnvR w) :
   Calls Tryz.prog 41 #[.string s] w (Ret w (.int .i64 0)):=by
 have c1:=c1'
 have c2:=c2'
 have C1:=Lib.hid c1
 have C2:=Lib.hid c2
 clear c1 c2 c1' c2'
 have hb:=Below.refl w.heap.size w
 go_enter Tryz.func41,Tryz.ntmps41
 go_wp2_with ((first | (go_at_call 72;with_reducible refine (chRA hb R C1).mono ?_) | (go_at_call 73;with_reducible refine (chRA hb R C2).mono ?_));clear hb;rintro e w1 ⟨rfl,hb⟩)
 go_ret
 exact ⟨rfl,hb⟩
theorem check_c (s a b:ByteArray) (c1':CR 72 #[.string s,.string ⟨#[47]⟩] (.tuple #[.string a,.string b,.bool true])) (c2':CR 73 #[.string a] (.int .i64 0)) (c3':CR 73 #[.string b] (.int .i64 2)) (w:World) (R:EnvR w) :
   Calls Tryz.prog 41 #[.string s] w (Ret w (.int .i64 2)):=by
 have c1:=c1'
 have c2:=c2'
 have c3:=c3'
 have C1:=Lib.hid c1
 have C2:=Lib.hid c2
 have C3:=Lib.hid c3
 clear c1 c2 c3 c1' c2' c3'
 have hb:=Below.refl w.heap.size w
 go_enter Tryz.func41,Tryz.ntmps41
 go_wp2_with ((first | (go_at_call 72;with_reducible refine (chRA hb R C1).mono ?_) | (go_at_call 73;first | with_reducible refine (chRA hb R C2).mono ?_ | with_reducible refine (chRA hb R C3).mono ?_));clear hb;rintro e w1 ⟨rfl,hb⟩)
 go_ret
 exact ⟨rfl,hb⟩
theorem check_d (s a b:ByteArray) (h0:(a.toList == [48])=true) (c1':CR 72 #[.string s,.string ⟨#[47]⟩] (.tuple #[.string a,.string b,.bool true])) (c2':CR 73 #[.string a] (.int .i64 0)) (c3':CR 73 #[.string b] (.int .i64 0)) (w:World) (R:EnvR w) :
   Calls Tryz.prog 41 #[.string s] w (Ret w (.int .i64 2)):=by
 have c1:=c1'
 have c2:=c2'
 have c3:=c3'
 have C1:=Lib.hid c1
 have C2:=Lib.hid c2
 have C3:=Lib.hid c3
 clear c1 c2 c3 c1' c2' c3'
 have hb:=Below.refl w.heap.size w
 go_enter Tryz.func41,Tryz.ntmps41
 go_wp2_with ((first | (go_at_call 72;with_reducible refine (chRA hb R C1).mono ?_) | (go_at_call 73;first | with_reducible refine (chRA hb R C2).mono ?_ | with_reducible refine (chRA hb R C3).mono ?_));clear hb;rintro e w1 ⟨rfl,hb⟩)
 go_ret
 exact ⟨rfl,hb⟩
theorem check_e (s a b:ByteArray) (c:Int) (h0:(a.toList == [48])=false) (hc:c≤0) (c1':CR 72 #[.string s,.string ⟨#[47]⟩] (.tuple #[.string a,.string b,.bool true])) (c2':CR 73 #[.string a] (.int .i64 0)) (c3':CR 73 #[.string b] (.int .i64 0)) (c4':CR 74 #[.string b,.string ⟨#[49]⟩] (.int .i64 c)) (w:World) (R:EnvR w) :
   Calls Tryz.prog 41 #[.string s] w (Ret w (.int .i64 2)):=by
 have c1:=c1'
 have c2:=c2'
 have c3:=c3'
 have c4:=c4'
 have C1:=Lib.hid c1
 have C2:=Lib.hid c2
 have C3:=Lib.hid c3
 have C4:=Lib.hid c4
 clear c1 c2 c3 c4 c1' c2' c3' c4'
 have hb:=Below.refl w.heap.size w
 go_enter Tryz.func41,Tryz.ntmps41
 go_wp2_with ((first | (go_at_call 72;with_reducible refine (chRA hb R C1).mono ?_) | (go_at_call 73;first | with_reducible refine (chRA hb R C2).mono ?_ | with_reducible refine (chRA hb R C3).mono ?_) | (go_at_call 74;with_reducible refine (chRA hb R C4).mono ?_));clear hb;rintro e w1 ⟨rfl,hb⟩)
 go_ret
 exact ⟨rfl,hb⟩
theorem check_f_true (s a b g:ByteArray) (c:Int) (h0:(a.toList == [48])=false) (hc:0 < c) (hg:(g.toList == [49])=true) (c1':CR 72 #[.string s,.string ⟨#[47]⟩] (.tuple #[.string a,.string b,.bool true])) (c2':CR 73 #[.string a] (.int .i64 0)) (c3':CR 73 #[.string b] (.int .i64 0)) (c4':CR 74 #[.string b,.string ⟨#[49]⟩] (.int .i64 c)) (c5':CR 75 #[.string a,.string b] (.string g)) (w:World) (R:EnvR w) :
   Calls Tryz.prog 41 #[.string s] w (Ret w (.int .i64 0)):=by
 have c1:=c1'
 have c2:=c2'
 have c3:=c3'
 have c4:=c4'
 have c5:=c5'
 have C1:=Lib.hid c1
 have C2:=Lib.hid c2
 have C3:=Lib.hid c3
 have C4:=Lib.hid c4
 have C5:=Lib.hid c5
 clear c1 c2 c3 c4 c5 c1' c2' c3' c4' c5'
 have hb:=Below.refl w.heap.size w
 go_enter Tryz.func41,Tryz.ntmps41
 go_wp2_with ((first | (go_at_call 72;with_reducible refine (chRA hb R C1).mono ?_) | (go_at_call 73;first | with_reducible refine (chRA hb R C2).mono ?_ | with_reducible refine (chRA hb R C3).mono ?_) | (go_at_call 74;with_reducible refine (chRA hb R C4).mono ?_) | (go_at_call 75;with_reducible refine (chRA hb R C5).mono ?_));clear hb;rintro e w1 ⟨rfl,hb⟩)
 go_ret
 exact ⟨rfl,hb⟩
theorem check_f_false (s a b g:ByteArray) (c:Int) (h0:(a.toList == [48])=false) (hc:0 < c) (hg:(g.toList == [49])=false) (c1':CR 72 #[.string s,.string ⟨#[47]⟩] (.tuple #[.string a,.string b,.bool true])) (c2':CR 73 #[.string a] (.int .i64 0)) (c3':CR 73 #[.string b] (.int .i64 0)) (c4':CR 74 #[.string b,.string ⟨#[49]⟩] (.int .i64 c)) (c5':CR 75 #[.string a,.string b] (.string g)) (w:World) (R:EnvR w) :
   Calls Tryz.prog 41 #[.string s] w (Ret w (.int .i64 2)):=by
 have c1:=c1'
 have c2:=c2'
 have c3:=c3'
 have c4:=c4'
 have c5:=c5'
 have C1:=Lib.hid c1
 have C2:=Lib.hid c2
 have C3:=Lib.hid c3
 have C4:=Lib.hid c4
 have C5:=Lib.hid c5
 clear c1 c2 c3 c4 c5 c1' c2' c3' c4' c5'
 have hb:=Below.refl w.heap.size w
 go_enter Tryz.func41,Tryz.ntmps41
 go_wp2_with ((first | (go_at_call 72;with_reducible refine (chRA hb R C1).mono ?_) | (go_at_call 73;first | with_reducible refine (chRA hb R C2).mono ?_ | with_reducible refine (chRA hb R C3).mono ?_) | (go_at_call 74;with_reducible refine (chRA hb R C4).mono ?_) | (go_at_call 75;with_reducible refine (chRA hb R C5).mono ?_));clear hb;rintro e w1 ⟨rfl,hb⟩)
 go_ret
 exact ⟨rfl,hb⟩
theorem check_tt {a:List UInt8} {v:Int} (h:(if rightB a then (0:Int) else 2)=v) (hs:a.length≤1000000) (w:World) (_R:EnvR w):Calls Tryz.prog 73 #[.string (strOf a)] w (Ret w (.int .i64 v)):=
 (check_any (strOf a) w (by rw [strOf_size];exact hs) v h).mono fun _ _ ⟨a,b⟩=>⟨a,b ▸ Below.refl _ _⟩
theorem rcheck_any (s:ByteArray) (v:Int) (hv:(IsRat s.data.toList∧v=0)∨(¬ IsRat s.data.toList∧v=2)) (hs:s.size≤100000) (w:World) (R:EnvR w) :
   Calls Tryz.prog 41 #[.string s] w (Ret w (.int .i64 v)):=by
 rcases slash_split s.data.toList with hn | ⟨a,d,e,hn⟩
 · rw [isRat_nos hn] at hv
   have hc:CR 72 #[.string s,.string ⟨#[47]⟩] (.tuple #[.string s,.string ⟨#[]⟩,.bool false]):=fun w R=>cut_call s ⟨#[47]⟩ _ _ _ (cut_miss hn) (by omega) w R
   rcases hv with ⟨h,rfl⟩ | ⟨h,rfl⟩
   · exact check_b s _ _ hc (fun w R=>check_tt (a:=s.data.toList) (by rw [h];rfl) (by rw [← size_len];omega) w R) w R
   · exact check_a s _ _ _ hc (fun w R=>check_tt (a:=s.data.toList) (by rw [if_neg h]) (by rw [← size_len];omega) w R) w R
 · rw [e] at hv
   have hl:s.size=a.length+1+d.length:=by rw [size_len,e,List.length_append,List.length_cons];omega
   have hc:CR 72 #[.string s,.string ⟨#[47]⟩] (.tuple #[.string (strOf a),.string (strOf d),.bool true]):=fun w R=>cut_call s ⟨#[47]⟩ (strOf a) (strOf d) _ (by rw [e];exact cut_hit hn) (by omega) w R
   cases ha:rightB a with
   | false =>
     have hv0:v=2:=by
       rcases hv with ⟨h,_⟩ | ⟨_,h⟩
       · obtain ⟨x,y,f1,_,d1,_⟩:=(isRat_slash hn).1 h
         rw [rightB_iff.2 ⟨x,f1,d1⟩] at ha;cases ha
       · exact h
     rw [hv0]
     exact check_a s _ _ _ hc (fun w R=>check_tt (by rw [ha];rfl) (by omega) w R) w R
   | true =>
     have k1:=fun w R=>check_tt (a:=a) (v:=0) (by rw [ha];rfl) (by omega) w R
     cases hd:rightB d with
     | false =>
       have hv0:v=2:=by
         rcases hv with ⟨h,_⟩ | ⟨_,h⟩
         · obtain ⟨x,y,_,f2,_,d2,_⟩:=(isRat_slash hn).1 h
           rw [rightB_iff.2 ⟨y,f2,d2⟩] at hd;cases hd
         · exact h
       rw [hv0]
       exact check_c s _ _ hc k1 (fun w R=>check_tt (by rw [hd];rfl) (by omega) w R) w R
     | true =>
       have k2:=fun w R=>check_tt (a:=d) (v:=0) (by rw [hd];rfl) (by omega) w R
       obtain ⟨x,y,e1,e2,d1,d2,hi⟩:=split_right ha hd
       rw [hi hn] at hv
       rw [e1,e2] at hc
       rw [e1] at k1
       rw [e2] at k2
       have kc:CR 74 #[.string (itoaB y),.string ⟨#[49]⟩] (.int .i64 (y - 1).sign):=fun w R=>by
         have:=compare_any y 1 w
         rwa [itoa_one] at this
       have kg:=fun (w:World) (R:EnvR w)=>gcd_any x y w R.env (Nat.le_trans d1 (by decide)) (Nat.le_trans d2 (by decide))
       by_cases hx:x=0
       · have hv0:v=2:=by
           rcases hv with ⟨h,_⟩ | ⟨_,h⟩
           · exact absurd hx h.1
           · exact h
         rw [hv0]
         exact check_d s _ _ (by rw [str_zero];exact decide_eq_true hx) hc k1 k2 w R
       · have h0:((itoaB x).toList == [48])=false:=by rw [str_zero];exact decide_eq_false hx
         by_cases hy:1 < y
         · have hcs:0 < (y - 1).sign:=by rw [Int.sign_eq_one_of_pos (by omega)];decide
           by_cases hgc:Nat.gcd x.natAbs y.natAbs=1
           · have hv0:v=0:=by
               rcases hv with ⟨_,h⟩ | ⟨h,_⟩
               · exact h
               · exact absurd ⟨hx,hy,hgc⟩ h
             rw [hv0]
             exact check_f_true s _ _ _ _ h0 hcs (by rw [str_one,hgc];rfl) hc k1 k2 kc kg w R
           · have hv0:v=2:=by
               rcases hv with ⟨h,_⟩ | ⟨_,h⟩
               · exact absurd h.2.2 hgc
               · exact h
             rw [hv0]
             exact check_f_false s _ _ _ _ h0 hcs (by rw [str_one];exact decide_eq_false (by omega)) hc k1 k2 kc kg w R
         · have hcs:(y - 1).sign≤0:=by
             rcases Int.lt_trichotomy (y - 1) 0 with h | h | h
             · rw [Int.sign_eq_neg_one_of_neg h];decide
             · rw [h];decide
             · omega
           have hv0:v=2:=by
             rcases hv with ⟨h,_⟩ | ⟨_,h⟩
             · exact absurd h.2.1 hy
             · exact h
           rw [hv0]
           exact check_e s _ _ _ h0 hcs hc k1 k2 kc w R
end Go.Proofs.YtpiiclmkbplkhaaGreatDoor.Kl
