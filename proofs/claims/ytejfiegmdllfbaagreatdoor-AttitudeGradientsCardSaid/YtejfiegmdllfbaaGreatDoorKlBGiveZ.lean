import Derived.Lib.ItoaLen
import Derived.Test.YtejfiegmdllfbaaGreatDoorKlBJoined
namespace Go.Proofs.YtejfiegmdllfbaaGreatDoor.Kl
open Go Go.RowKit
set_option maxRecDepth 100000
set_option maxHeartbeats 8000000
theorem dec_big {u:Nat} (h:¬ u < 10):Lib.decDigits u=Lib.decDigits (u / 10) ++ [UInt8.ofNat (48+u % 10)]:=by rw [Lib.decDigits,dif_neg h]
theorem dec_four {u:Nat} (h:10000≤u):Lib.decDigits u=Lib.decDigits (u / 10000) ++ [UInt8.ofNat (48+u / 1000 % 10),UInt8.ofNat (48+u / 100 % 10),UInt8.ofNat (48+u / 10 % 10),UInt8.ofNat (48+u % 10)]:=by
 rw [dec_big (u:=u) (by omega),dec_big (u:=u / 10) (by omega),dec_big (u:=u / 10 / 10) (by omega),dec_big (u:=u / 10 / 10 / 10) (by omega)]
 rw [show u / 10 / 10 / 10 / 10=u / 10000 by omega,show u / 10 / 10 / 10=u / 1000 by omega,show u / 10 / 10=u / 100 by omega]
 simp
theorem dec_piece (A b:Nat) (hA:0 < A) (hb:b < 10000):Lib.decDigits (10000*A+b)=Lib.decDigits A ++ (Lib.decDigits (10000+b)).tail:=by
 rw [dec_four (u:=10000*A+b) (by omega),dec_four (u:=10000+b) (by omega),show (10000+b) / 10000=1 by omega,show (10000*A+b) / 10000=A by omega]
 rw [show Lib.decDigits 1=[49] by rw [Lib.decDigits];rfl]
 rw [show (10000*A+b) / 1000 % 10=(10000+b) / 1000 % 10 by omega,show (10000*A+b) / 100 % 10=(10000+b) / 100 % 10 by omega,show (10000*A+b) / 10 % 10=(10000+b) / 10 % 10 by omega,show (10000*A+b) % 10=(10000+b) % 10 by omega]
 rfl
theorem itoa_nat (n:Int) (h:0≤n):Lib.itoa n=Lib.decDigits n.toNat:=by unfold Lib.itoa;rw [if_neg (by omega)]
def giveB (xs:List Int) (k:Nat):ByteArray:=strOf (Lib.decDigits (pval 10000 (xs.drop k)).toNat)
theorem drop_isP {B:Int}:∀ (k:Nat) {xs:List Int},IsP B xs→IsP B (xs.drop k)
 | 0,_,h=>h
 | k+1,[],h=>by simpa using h
 | k+1,_ :: r,h=>drop_isP k (isP_tail h)
theorem give_step {xs:List Int} (h:IsP 10000 xs) {j:Nat} (hj:j+1 < xs.length) :
   giveB xs (j+1) ++ (itoaB (10000+xs[j]?.getD 0)).extract 1 (itoaB (10000+xs[j]?.getD 0)).size=giveB xs j:=by
 have hjl:j < xs.length:=by omega
 have hx:=h.1 xs[j] (List.getElem_mem hjl)
 have hpos:=isP_pos (by decide:(0:Int) < 10000) (drop_isP (j+1) h) (by
   intro e;have:=congrArg List.length e;rw [List.length_drop] at this;simp at this;omega)
 have e1:pval 10000 (xs.drop j)=xs[j]+10000*pval 10000 (xs.drop (j+1)):=by rw [← List.getElem_cons_drop hjl];rfl
 have e2:xs[j]?.getD 0=xs[j]:=by rw [List.getElem?_eq_getElem hjl];rfl
 rw [e2]
 unfold giveB
 have e3:(pval 10000 (xs.drop j)).toNat=10000*(pval 10000 (xs.drop (j+1))).toNat+xs[j].toNat:=by rw [e1];omega
 rw [e3,dec_piece _ _ (by omega) (by omega)]
 have e4:Lib.itoa (10000+xs[j])=Lib.decDigits (10000+xs[j].toNat):=by
   rw [itoa_nat _ (by omega)];congr 1;omega
 apply eq_strOf
 have e5:((itoaB (10000+xs[j])).extract 1 (itoaB (10000+xs[j])).size).data.toList=(Lib.decDigits (10000+xs[j].toNat)).tail:=by
   rw [Lib.extract_to_end,show (itoaB (10000+xs[j])).data.toList=Lib.itoa (10000+xs[j]) from rfl,e4,List.drop_one]
 rw [ByteArray.data_append,Array.toList_append,e5]
 rfl
theorem itoa_five (z:Int) (h0:0≤z) (h1:z < 10000):(itoaB (10000+z)).size=5:=by
 unfold itoaB
 rw [strOf_size,itoa_nat _ (by omega),dec_four (by omega),show (10000+z).toNat / 10000=1 by omega,show Lib.decDigits 1=[49] by rw [Lib.decDigits];rfl]
 rfl
theorem give_some (b o n c:Nat) (xs:List Int) (w:World) (E:Env w) (hn:n=xs.length) (hm:n≤100000) (h0:0 < n) (hlt:b < w.heap.size) (hx:IsP 10000 xs)
   (hcell:∀ i,i < xs.length→w.cell? ⟨b,o+i,none⟩=some (.int .i64 (xs[i]?.getD 0))) :
   Calls Tryz.prog 225 #[.slice (some ⟨b,o,none⟩) n c] w (Ret w (.string (giveB xs 0))):=by
 have HN:=Lib.hid hn
 have HX:=Lib.hid hx
 have HC:=Lib.hid hcell
 have hinr:∀ i:Nat,0≤xs[i]?.getD 0∧xs[i]?.getD 0 < 10000:=fun i=>by
   by_cases hi:i < xs.length
   · rw [List.getElem?_eq_getElem hi];exact hx.1 _ (List.getElem_mem hi)
   · rw [List.getElem?_eq_none (by omega)];decide
 have HI:=Lib.hid hinr
 clear hn hx hcell hinr
 obtain ⟨j,rfl⟩:∃ j,n=j+1:=⟨n - 1,by omega⟩
 have hcj:=HC.out j (by have:=HN.out;omega)
 have hzj:=HI.out j
 have hstart:itoaB (xs[j]?.getD 0)=giveB xs j:=by
   have hjl:j < xs.length:=by have:=HN.out;omega
   unfold giveB itoaB
   rw [itoa_nat _ hzj.1]
   have e:xs.drop j=[xs[j]?.getD 0]:=by
     rw [← List.getElem_cons_drop hjl,List.drop_eq_nil_of_le (by have:=HN.out;omega),List.getElem?_eq_getElem hjl];rfl
   rw [e]
   show strOf _=strOf (Lib.decDigits (xs[j]?.getD 0+10000*0).toNat)
   simp
 have hss:(giveB xs j).size≤21:=by
   rw [← hstart];unfold itoaB;rw [strOf_size];exact Lib.itoa_length_le _ (by omega) (by omega)
 have HS:=Lib.hid hstart
 obtain ⟨z,hz⟩:∃ z,xs[j]?.getD 0=z:=⟨_,rfl⟩
 rw [hz] at hcj hzj
 have HZ:=Lib.hid hz
 clear hstart hz
 have c1:∀ w1,Below w.heap.size w w1→Calls Tryz.prog 149 #[.int .i64 z] w1 fun e w' => e = .returned (.string (giveB xs j))∧Below w1.heap.size w1 w':=fun w1 hb=>by
   rw [← HS.out,HZ.out];exact itoa_call z (by omega) (by omega) w1 (E.below hb)
 have C1:=Lib.hid c1
 clear c1
 have hb:=Below.refl w.heap.size w
 go_enter Tryz.func225,Tryz.ntmps225
 go_wp2_with (go_at_call 149;refine (chain hb (C1.out _ hb)).mono ?_;clear hb;rintro e w1 ⟨rfl,hb⟩)
 go_loopw [3,4] (fun v iv2 wr=>∃ k:Nat,k≤j∧iv2 = .int .i64 ((k:Int) - 1)∧v = .string (giveB xs k)∧(giveB xs k).size≤21+4*(j - k)∧Below w.heap.size w wr) (fun _ iv2 _=>(intOf iv2+1).toNat)
 case atStart=>exact ⟨j,Nat.le_refl _,by go_num,rfl,by omega,hb⟩
 case round =>
   obtain ⟨k,hk,rfl,rfl,hsz,hb⟩:=hrel
   by_cases hk0:k=0
   · subst hk0
     go_wp2
     go_ret
     exact ⟨rfl,hb⟩
   · obtain ⟨i,rfl⟩:∃ i,k=i+1:=⟨k - 1,by omega⟩
     have hci:=(hb.cell (p:=⟨b,o+i,none⟩) hlt).trans (HC.out i (by have:=HN.out;omega))
     have hzi:=HI.out i
     have hst:=give_step HX.out (j:=i) (by have:=HN.out;omega)
     have h5:=itoa_five _ hzi.1 hzi.2
     obtain ⟨y,hy⟩:∃ y,xs[i]?.getD 0=y:=⟨_,rfl⟩
     rw [hy] at hci hzi hst h5
     obtain ⟨X,hX⟩:∃ X,itoaB (10000+y)=X:=⟨_,rfl⟩
     rw [hX] at hst h5
     have c2:∀ w1,Below w.heap.size w w1→Calls Tryz.prog 149 #[.int .i64 (10000+y)] w1 fun e w' => e = .returned (.string X)∧Below w1.heap.size w1 w':=fun w1 hb=>by
       rw [← hX];exact itoa_call (10000+y) (by omega) (by omega) w1 (E.below hb)
     have C2:=Lib.hid c2
     have HST:=Lib.hid hst
     have hsz2:(giveB xs i).size≤21+4*(j - i):=by
       rw [← hst,ByteArray.size_append,ByteArray.size_extract];omega
     have hXs:X.size≤5:=by omega
     have hXp:1≤X.size:=by omega
     have H5:=Lib.hid h5
     clear hy hX c2 hst h5
     go_wp2_with (go_at_call 149;refine (chain hb (C2.out _ hb)).mono ?_;clear hb;rintro e w1 ⟨rfl,hb⟩)
     go_roundw
     case rel=>exact ⟨i,by omega,rfl,by rw [HST.out],hsz2,hb⟩
     case measure=>simp [intOf]
theorem give_none (p:Option Addr) (c:Nat) (w:World) :
   Calls Tryz.prog 225 #[.slice p 0 c] w (Ret w (.string ⟨#[48]⟩)):=by
 go_enter Tryz.func225,Tryz.ntmps225
 go_wp2
 go_ret
 exact ⟨rfl,Below.refl _ _⟩
theorem give_any (p:Option Addr) (n c N:Nat) (w:World) (E:Env w) (hn:n=(pcN N).length) (hm:n≤100000) (h:Has w p (pcN N)) :
   Calls Tryz.prog 225 #[.slice p n c] w (Ret w (.string (strOf (Lib.decDigits N)))):=by
 obtain ⟨hI,hV⟩:=pcN_isP N
 by_cases h0:N=0
 · subst h0
   have e:pcN 0=[]:=by rw [pcN,dif_pos rfl]
   rw [e] at hn
   obtain rfl:n=0:=hn
   rw [decDigits_zero]
   exact give_none p c w
 · have hne:pcN N≠[]:=by rw [pcN,dif_neg h0];simp
   rcases h with h | ⟨b,o,rfl,hlt,hcell⟩
   · exact absurd h hne
   · have:=give_some b o n c (pcN N) w E hn hm (by rw [hn];exact List.length_pos_iff.2 hne) hlt hI hcell
     have e:giveB (pcN N) 0=strOf (Lib.decDigits N):=by unfold giveB;rw [List.drop_zero,hV];rfl
     rwa [e] at this
def sgn (b:Bool) (N:Nat):List UInt8:=if b && decide (0 < N) then 45 :: Lib.decDigits N else Lib.decDigits N
theorem sgn_itoa (x:Int):sgn (decide (x < 0)) x.natAbs=Lib.itoa x:=by
 unfold sgn Lib.itoa
 by_cases h:x < 0
 · have h2:0 < x.natAbs:=by omega
   rw [decide_eq_true h,decide_eq_true h2,if_pos h];rfl
 · rw [decide_eq_false h,if_neg h]
   show Lib.decDigits x.natAbs=Lib.decDigits x.toNat
   congr 1;omega
theorem pcN_trim (N:Nat):trimP (pcN N)=pcN N:=by
 obtain ⟨hI,hV⟩:=pcN_isP N
 rw [trim_pcN hI.1,hV];rfl
theorem dec_len_le (N:Nat):∀ k,N < 10 ^ k→0 < k→(Lib.decDigits N).length≤k:=by
 induction N using Nat.strongRecOn with
 | _ N ih =>
   intro k h h0
   by_cases hN:N < 10
   · rw [Lib.decDigits,dif_pos hN];exact h0
   · rw [dec_big hN,List.length_append]
     obtain ⟨m,rfl⟩:∃ m,k=m+1:=⟨k - 1,by omega⟩
     rw [Nat.pow_succ] at h
     have hm:0 < m:=by
       rcases Nat.eq_zero_or_pos m with e | e
       · subst e;simp at h;omega
       · exact e
     have:=ih (N / 10) (by omega) m (by omega) hm
     simp;omega
theorem made_any (b:Bool) (p:Option Addr) (n c N:Nat) (w:World) (E:Env w) (hn:n=(pcN N).length) (hm:n≤100000) (hnc:n≤c) (hc:c≤9223372036854775807) (hpn:p=none→c=0) (h:Has w p (pcN N)) (hd:(Lib.decDigits N).length≤1000000) :
   Calls Tryz.prog 203 #[.bool b,.slice p n c] w (Ret w (.string (strOf (sgn b N)))):=by
 have HC:=Lib.hid (cut_any p n c (pcN N) w hn hnc hc hpn h)
 have HN:=Lib.hid hn
 clear hn h hpn
 have hg:∀ (p2:Option Addr) (n2 c2:Nat) (w1:World),RetP w (trimP (pcN N)) (.returned (.slice p2 n2 c2)) w1→Calls Tryz.prog 225 #[.slice p2 n2 c2] w1 fun e w' => e = .returned (.string (strOf (Lib.decDigits N)))∧Below w1.heap.size w1 w':=fun p2 n2 c2 w1 hr=>by
   rw [pcN_trim] at hr
   obtain ⟨p3,n3,c3,h1,h2,h3,h4,h5,h6,h7⟩:=hr
   injection h1 with h1
   injection h1 with e1 e2 e3
   subst e1;subst e2;subst e3
   exact give_any p2 n2 c2 N w1 (E.below h7) h2 (by rw [h2,← HN.out];exact hm) h6
 have HG:=Lib.hid hg
 clear hg
 go_enter Tryz.func203,Tryz.ntmps203
 go_wp2_with (go_at_call 223;refine HC.out.mono ?_;rintro e w1 ⟨p2,n2,c2,rfl,hr⟩;have HR:=Lib.hid hr;clear hr;refine Hid.out ?_)
 refine Lib.hid ?_
 have hb:=HR.out.2.2.2.2.2
 have hg2:=HG.out p2 n2 c2 w1 ⟨p2,n2,c2,rfl,HR.out⟩
 have hn2:n2=(pcN N).length:=by have:=HR.out.1;rwa [pcN_trim] at this
 have HG2:=Lib.hid hg2
 have HN2:=Lib.hid hn2
 clear hg2
 by_cases h0:0 < N
 · have hp:0 < n2:=by
     rw [hn2];refine List.length_pos_iff.2 ?_;rw [pcN,dif_neg (by omega)];simp
   have hp2:(0:Int) < (n2:Int):=by omega
   have hsz:(strOf (Lib.decDigits N)).size≤1000000:=by rw [strOf_size];exact hd
   clear hn2
   cases b with
   | true =>
     go_wp2_with (go_at_call 225;refine (chain hb HG2.out).mono ?_;clear hb;rintro e w2 ⟨rfl,hb⟩)
     go_ret
     exact ⟨retS (by rw [cat_minus];unfold sgn;rw [decide_eq_true h0];rfl),hb⟩
   | false =>
     go_wp2_with (go_at_call 225;refine (chain hb HG2.out).mono ?_;clear hb;rintro e w2 ⟨rfl,hb⟩)
     go_ret
     exact ⟨rfl,hb⟩
 · have hz:N=0:=by omega
   have hp:n2=0:=by rw [hn2,hz,pcN,dif_pos rfl];rfl
   have HZ:=Lib.hid hz
   clear hn2 hz
   subst hp
   cases b with
   | true =>
     go_wp2_with (go_at_call 225;refine (chain hb HG2.out).mono ?_;clear hb;rintro e w2 ⟨rfl,hb⟩)
     go_ret
     exact ⟨retS (by unfold sgn;rw [decide_eq_false h0];rfl),hb⟩
   | false =>
     go_wp2_with (go_at_call 225;refine (chain hb HG2.out).mono ?_;clear hb;rintro e w2 ⟨rfl,hb⟩)
     go_ret
     exact ⟨rfl,hb⟩
def dlen (x:Int):Nat:=(Lib.decDigits x.natAbs).length
theorem itoaB_data (x:Int):(itoaB x).data.toList=Lib.itoa x:=rfl
theorem magB_itoa (x:Int):magB (itoaB x)=strOf (Lib.decDigits x.natAbs):=by unfold magB;rw [itoaB_data,mag_itoa]
theorem itoa_len (x:Int):(Lib.itoa x).length=dlen x+(if x < 0 then 1 else 0):=by
 have h1:=mag_length (Lib.itoa x)
 rw [mag_itoa,neg_itoa] at h1
 have h2:=itoa_pos' x
 unfold dlen
 by_cases h:x < 0
 · rw [decide_eq_true h,if_pos rfl] at h1;rw [if_pos h];omega
 · rw [decide_eq_false h,if_neg (by decide)] at h1;rw [if_neg h];omega
where
 itoa_pos' (x:Int):0 < (Lib.itoa x).length:=by
   unfold Lib.itoa;split
   · simp
   · exact List.length_pos_iff.2 (decDigits_ne _)
theorem itoaB_size (x:Int) (h:dlen x≤100000):(itoaB x).size≤100001:=by
 unfold itoaB;rw [strOf_size,itoa_len];split <;> omega
theorem dig_lt (N:Nat):N < 10 ^ (Lib.decDigits N).length:=by
 have:=val_lt _ (decDigits_dig N);rwa [val_decDigits] at this
theorem pcN_len (N:Nat) (k:Nat) (h:N < 10000 ^ k):(pcN N).length≤k:=by
 by_cases h0:N=0
 · subst h0;rw [pcN,dif_pos rfl];exact Nat.zero_le _
 · obtain ⟨hI,hV⟩:=pcN_isP N
   rcases snoc_cases (pcN N) with e | ⟨ys,y,e⟩
   · rw [e];exact Nat.zero_le _
   · have hy:y≠0:=fun e2=>hI.2 (by rw [e,e2];simp)
     have hy1:=hI.1 y (by rw [e];simp)
     have h1:0≤pval 10000 ys:=pval_nonneg (by decide) (fun u hu=>hI.1 u (by rw [e];exact List.mem_append_left _ hu))
     rw [e,pval_append] at hV
     have h2:(10000:Int) ^ ys.length*1≤10000 ^ ys.length*pval 10000 [y]:=Int.mul_le_mul_of_nonneg_left (by show 1≤y+10000*0;omega) (Int.le_of_lt (Int.pow_pos (by decide)))
     have h3:(10000:Int) ^ ys.length≤(N:Int):=by omega
     have h4:10000 ^ ys.length≤N:=by
       have:((10000 ^ ys.length:Nat):Int)≤(N:Int):=by rw [Int.natCast_pow];exact h3
       omega
     rw [e,List.length_append]
     have h5:10000 ^ ys.length < 10000 ^ k:=Nat.lt_of_le_of_lt h4 h
     have:=(Nat.pow_lt_pow_iff_right (by decide:1 < 10000)).1 h5
     simp;omega
theorem pcN_len_dec (N k:Nat) (h:(Lib.decDigits N).length≤k):(pcN N).length≤k:=by
 refine pcN_len N k (Nat.lt_of_lt_of_le (dig_lt N) ?_)
 exact Nat.le_trans (Nat.pow_le_pow_right (by decide) h) (Nat.pow_le_pow_left (by decide) k)
theorem brief_short (x:Int) (w:World) (h:dlen x≤17) :
   Calls Tryz.prog 198 #[.string (itoaB x)] w (Ret w (.tuple #[.int .i64 x,.bool true])):=by
 have hlt:x.natAbs < 10 ^ 17:=Nat.lt_of_lt_of_le (dig_lt _) (Nat.pow_le_pow_right (by decide) h)
 have hlt':x.natAbs < 100000000000000000:=hlt
 have hm:(magB (itoaB x)).size≤17:=by rw [magB_itoa,strOf_size];exact h
 have hs:(itoaB x).size≤1000000:=by have:=itoaB_size x (by omega);omega
 have h1:=refSmall_any (itoaB x) w hs (canon_itoa x)
 have e1:smI (itoaB x).data.toList=x:=by unfold smI;rw [itoaB_data,smallV_itoa x (by omega) (by omega)];rfl
 have e2:smB (itoaB x).data.toList=true:=by unfold smB;rw [itoaB_data,smallV_itoa x (by omega) (by omega)];rfl
 have c1:∀ w,Calls Tryz.prog 222 #[.string (itoaB x)] w (Ret w (.tuple #[.int .i64 x,.bool true])):=fun w=>by
   have:=refSmall_any (itoaB x) w hs (canon_itoa x);rwa [e1,e2] at this
 have C1:=Lib.hid c1
 obtain ⟨a,ha⟩:∃ a,itoaB x=a:=⟨_,rfl⟩
 rw [ha] at hm hs C1 ⊢
 clear c1 h1 e1 e2 hlt ha
 have hb:=Below.refl w.heap.size w
 go_enter Tryz.func198,Tryz.ntmps198
 go_wp2_with (first | (go_at_call 159;refine (chain hb (split_any _ _ _ rfl)).mono ?_;clear hb;rintro e w1 ⟨rfl,hb⟩) | (go_at_call 222;refine (chain hb (C1.out _)).mono ?_;clear hb;rintro e w1 ⟨rfl,hb⟩))
 go_ret2
 exact ⟨rfl,hb⟩
theorem brief_long (x:Int) (w:World) (h:17 < dlen x) (hl:dlen x≤100000) :
   Calls Tryz.prog 198 #[.string (itoaB x)] w (Ret w (.tuple #[.int .i64 0,.bool false])):=by
 have hm:17 < (magB (itoaB x)).size:=by rw [magB_itoa,strOf_size];exact h
 have hs:(itoaB x).size≤1000000:=by have:=itoaB_size x hl;omega
 have hml:=magB_le (itoaB x)
 obtain ⟨a,ha⟩:∃ a,itoaB x=a:=⟨_,rfl⟩
 rw [ha] at hm hs hml ⊢
 clear ha
 have hb:=Below.refl w.heap.size w
 go_enter Tryz.func198,Tryz.ntmps198
 go_wp2_with (first | (go_at_call 159;refine (chain hb (split_any _ _ _ rfl)).mono ?_;clear hb;rintro e w1 ⟨rfl,hb⟩))
 go_ret2
 exact ⟨rfl,hb⟩
theorem joined_any (p q:Option Addr) (n c m d N M:Nat) (k:Int) (w:World) (hn:n=(pcN N).length) (hm:m=(pcN M).length) (hnl:n≤100000) (hml:m≤100000) (hnc:n≤c) (hpc:p=none→c=0)
   (hp:Has w p (pcN N)) (hq:Has w q (pcN M)) (hk0 : -10000≤k) (hk1:k≤10000) (hV0:0≤(N:Int)+k*M) :
   Calls Tryz.prog 202 #[.slice p n c,.slice q m d,.int .i64 k,.int .i64 0] w (RetP w (pcN ((N:Int)+k*M).toNat)):=by
 have hr:∀ N:Nat,∀ j:Nat,0≤(pcN N)[j]?.getD 0∧(pcN N)[j]?.getD 0 < 10000:=fun N j=>by
   rcases h:(pcN N)[j]? with _ | z
   · exact ⟨by decide,by decide⟩
   · exact (pcN_isP N).1.1 z (List.mem_of_getElem? h)
 have eN:=(pcN_isP N).2
 have eM:=(pcN_isP M).2
 have e:pval 10000 (pcN N)+k*pval 10000 (pcN M)=(N:Int)+k*M:=by rw [eN,eM]
 rcases p with _ | ad
 · obtain rfl:=hpc rfl
   obtain rfl:n=0:=by omega
   have:=joined_nil q 0 m d (pcN N) (pcN M) k w hn hm hnl hml hp hq hk0 hk1 (hr N) (hr M) (by rw [e];exact hV0)
   rwa [e] at this
 · have:=joined_some ad q n c m d (pcN N) (pcN M) k w hn hm hnl hml hp hq hk0 hk1 (hr N) (hr M) (by rw [e];exact hV0)
   rwa [e] at this
theorem sgn_of (z:Int) (b:Bool) (N:Nat) (h:N=z.natAbs) (hb:0 < N→b=decide (z < 0)):sgn b N=Lib.itoa z:=by
 rw [← sgn_itoa]
 by_cases h0:0 < N
 · rw [hb h0,h]
 · have e1:N=0:=by omega
   have e2:z.natAbs=0:=by omega
   rw [e1,e2];unfold sgn
   simp
theorem dec_add_len (K N M x:Nat) (hK:0 < K) (h1:(Lib.decDigits N).length≤K) (h2:(Lib.decDigits M).length≤K) (hx:x≤N+M):(Lib.decDigits x).length≤K+1:=by
 refine dec_len_le x (K+1) ?_ (by omega)
 have a:=Nat.lt_of_lt_of_le (dig_lt N) (Nat.pow_le_pow_right (by decide) h1)
 have b:=Nat.lt_of_lt_of_le (dig_lt M) (Nat.pow_le_pow_right (by decide) h2)
 rw [Nat.pow_succ];omega
structure Sl (w:World) (p:Option Addr) (n c:Nat) (X:Nat):Prop where
 len:n=(pcN X).length
 cap:n≤c
 top:c≤9223372036854775807
 nil:p=none→c=0
 has:Has w p (pcN X)
theorem Sl.below {w w':World} {p:Option Addr} {n c X:Nat} (h:Sl w p n c X) (hb:Below w.heap.size w w'):Sl w' p n c X:=⟨h.len,h.cap,h.top,h.nil,h.has.below hb⟩
theorem chainR {P:Program} {K:FuncId} {args:Array Value} {w w0:World} {X:Nat} (hb:Below w0.heap.size w0 w) (h:Calls P K args w (RetP w (pcN X))) :
   Calls P K args w fun e w' => ∃ p n c,e = .returned (.slice p n c)∧Sl w' p n c X∧Below w.heap.size w w'∧Below w0.heap.size w0 w':=
 h.mono fun _ _ ⟨p,n,c,e,h1,h2,h3,h4,h5,h6⟩=>⟨p,n,c,e,⟨h1,h2,h3,h4,h5⟩,h6,hb.trans (h6.mono hb.size)⟩
theorem chain2 {P:Program} {K:FuncId} {args:Array Value} {w w0:World} {v:Value} (hb:Below w0.heap.size w0 w)
   (h:Calls P K args w fun e w' => e = .returned v∧Below w.heap.size w w'):Calls P K args w fun e w' => e = .returned v∧Below w.heap.size w w'∧Below w0.heap.size w0 w':=
 h.mono fun _ _ ⟨a,b⟩=>⟨a,b,hb.trans (b.mono hb.size)⟩
theorem less_sl {p q:Option Addr} {n c m d X Y:Nat} {w:World} (h1:Sl w p n c X) (h2:Sl w q m d Y) (hX:(pcN X).length≤100000) (hY:(pcN Y).length≤100000) (b:Bool) (hb:decide (X < Y)=b) :
   Calls Tryz.prog 221 #[.slice p n c,.slice q m d] w (Ret w (.bool b)):=by
 have:=less_any p q n c m d _ _ w h1.len h2.len (by rw [h1.len];omega) (by rw [h2.len];omega) (pcN_isP X).1 (pcN_isP Y).1 h1.has h2.has
 rwa [(pcN_isP X).2,(pcN_isP Y).2,show decide ((X:Int) < (Y:Int))=b by rw [← hb,decide_eq_decide];omega] at this
theorem joined_sl {p q:Option Addr} {n c m d X Y:Nat} {w:World} (h1:Sl w p n c X) (h2:Sl w q m d Y) (hX:(pcN X).length≤100000) (hY:(pcN Y).length≤100000) (k:Int) (hk0 : -10000≤k) (hk1:k≤10000) (V:Nat) (hV:(X:Int)+k*Y=V) :
   Calls Tryz.prog 202 #[.slice p n c,.slice q m d,.int .i64 k,.int .i64 0] w (RetP w (pcN V)):=by
 have:=joined_any p q n c m d X Y k w h1.len h2.len (by rw [h1.len];exact hX) (by rw [h2.len];exact hY) h1.cap h1.nil h1.has h2.has hk0 hk1 (by rw [hV];omega)
 rwa [hV,show ((V:Nat):Int).toNat=V by omega] at this
theorem made_sl {p:Option Addr} {n c X:Nat} {w:World} (E:Env w) (h1:Sl w p n c X) (hX:(pcN X).length≤100000) (hd:(Lib.decDigits X).length≤1000000) (b:Bool) (r:ByteArray) (hr:strOf (sgn b X)=r) :
   Calls Tryz.prog 203 #[.bool b,.slice p n c] w (Ret w (.string r)):=by
 have:=made_any b p n c X w E h1.len (by rw [h1.len];exact hX) h1.cap h1.top h1.nil h1.has hd
 rwa [hr] at this
structure AddIn (a b sx sy:ByteArray) (v1 v2:Int) (b1 b2 mx my:Bool) (X Y:Nat):Prop where
 br1:∀ w,Calls Tryz.prog 198 #[.string a] w (Ret w (.tuple #[.int .i64 v1,.bool b1]))
 br2:∀ w,Calls Tryz.prog 198 #[.string b] w (Ret w (.tuple #[.int .i64 v2,.bool b2]))
 sp1:∀ w,Calls Tryz.prog 159 #[.string a] w (Ret w (.tuple #[.bool mx,.string sx]))
 sp2:∀ w,Calls Tryz.prog 159 #[.string b] w (Ret w (.tuple #[.bool my,.string sy]))
 tk1:∀ w,Calls Tryz.prog 201 #[.string sx] w (RetP w (pcN X))
 tk2:∀ w,Calls Tryz.prog 201 #[.string sy] w (RetP w (pcN Y))
 lX:(pcN X).length≤100000
 lY:(pcN Y).length≤100000
 lS:∀ V,V≤X+Y→(pcN V).length≤100000∧(Lib.decDigits V).length≤1000000
theorem add_same {a b sx sy:ByteArray} {v1 v2:Int} {b1 b2 mx my:Bool} {X Y:Nat} (I:AddIn a b sx sy v1 v2 b1 b2 mx my X Y) (hmy:mx=my) (hn:(b1 && b2)=false) (r:ByteArray) (hr:strOf (sgn mx (X+Y))=r) (w:World) (E:Env w) :
   Calls Tryz.prog 196 #[.string a,.string b] w (Ret w (.string r)):=by
 subst hmy
 have hb:=Below.refl w.heap.size w
 have j:∀ p n c q m d w,Sl w p n c X→Sl w q m d Y→Calls Tryz.prog 202 #[.slice p n c,.slice q m d,.int .i64 1,.int .i64 0] w (RetP w (pcN (X+Y))):=
   fun p n c q m d w h1 h2=>joined_sl h1 h2 I.lX I.lY (1) (by decide) (by decide) (X+Y) (by omega)
 have J:=Lib.hid j
 have m0:∀ p n c w,Env w→Sl w p n c (X+Y)→Calls Tryz.prog 203 #[.bool (mx),.slice p n c] w (Ret w (.string r)):=
   fun p n c w E h=>made_sl E h (I.lS _ (Nat.le_refl _)).1 (I.lS _ (Nat.le_refl _)).2 (mx) r hr
 have M:=Lib.hid m0
 clear hr j m0
 go_enter Tryz.func196,Tryz.ntmps196
 cases b1 with
 | false =>
   clear hn
   cases mx <;> (go_wp2_with (first | (go_at_call 198;first | (with_reducible refine (chain hb (I.br1 _)).mono ?_;clear hb;rintro e w1 ⟨rfl,hb⟩) | (with_reducible refine (chain hb (I.br2 _)).mono ?_;clear hb;rintro e w1 ⟨rfl,hb⟩)) | (go_at_call 159;first | (with_reducible refine (chain hb (I.sp1 _)).mono ?_;clear hb;rintro e w1 ⟨rfl,hb⟩) | (with_reducible refine (chain hb (I.sp2 _)).mono ?_;clear hb;rintro e w1 ⟨rfl,hb⟩)) | (go_at_call 201;first | (with_reducible refine (chainR hb (I.tk1 _)).mono ?_;clear hb;rintro e w1 ⟨p,n,c,rfl,hp,-,hb⟩) | (with_reducible refine (chainR hb (I.tk2 _)).mono ?_;clear hb;rintro e w2 ⟨q,m,d,rfl,hq,hb1,hb⟩;replace hp:=hp.below hb1;clear hb1)) | (go_at_call 202;refine (chainR hb (J.out _ _ _ _ _ _ _ hp hq)).mono ?_;clear hb hp hq;rintro e w3 ⟨o,l,f,rfl,ho,-,hb⟩) | (go_at_call 221;refine (chain2 hb (L.out _ _ _ _ _ _ _ hp hq)).mono ?_;clear hb;rintro e w4 ⟨rfl,hb1,hb⟩;replace hp:=hp.below hb1;replace hq:=hq.below hb1;clear hb1) | (go_at_call 203;refine (chain hb (M.out _ _ _ _ (E.below hb) ho)).mono ?_;clear hb;rintro e w5 ⟨rfl,hb⟩));go_ret;exact ⟨rfl,hb⟩)
 | true =>
   cases b2 with
   | true=>exact absurd hn (by decide)
   | false =>
     clear hn
     cases mx <;> (go_wp2_with (first | (go_at_call 198;first | (with_reducible refine (chain hb (I.br1 _)).mono ?_;clear hb;rintro e w1 ⟨rfl,hb⟩) | (with_reducible refine (chain hb (I.br2 _)).mono ?_;clear hb;rintro e w1 ⟨rfl,hb⟩)) | (go_at_call 159;first | (with_reducible refine (chain hb (I.sp1 _)).mono ?_;clear hb;rintro e w1 ⟨rfl,hb⟩) | (with_reducible refine (chain hb (I.sp2 _)).mono ?_;clear hb;rintro e w1 ⟨rfl,hb⟩)) | (go_at_call 201;first | (with_reducible refine (chainR hb (I.tk1 _)).mono ?_;clear hb;rintro e w1 ⟨p,n,c,rfl,hp,-,hb⟩) | (with_reducible refine (chainR hb (I.tk2 _)).mono ?_;clear hb;rintro e w2 ⟨q,m,d,rfl,hq,hb1,hb⟩;replace hp:=hp.below hb1;clear hb1)) | (go_at_call 202;refine (chainR hb (J.out _ _ _ _ _ _ _ hp hq)).mono ?_;clear hb hp hq;rintro e w3 ⟨o,l,f,rfl,ho,-,hb⟩) | (go_at_call 221;refine (chain2 hb (L.out _ _ _ _ _ _ _ hp hq)).mono ?_;clear hb;rintro e w4 ⟨rfl,hb1,hb⟩;replace hp:=hp.below hb1;replace hq:=hq.below hb1;clear hb1) | (go_at_call 203;refine (chain hb (M.out _ _ _ _ (E.below hb) ho)).mono ?_;clear hb;rintro e w5 ⟨rfl,hb⟩));go_ret;exact ⟨rfl,hb⟩)
theorem add_less {a b sx sy:ByteArray} {v1 v2:Int} {b1 b2 mx my:Bool} {X Y:Nat} (I:AddIn a b sx sy v1 v2 b1 b2 mx my X Y) (hmy:my = !mx) (hn:(b1 && b2)=false) (hlt:X < Y) (r:ByteArray) (hr:strOf (sgn (!mx) (Y - X))=r) (w:World) (E:Env w) :
   Calls Tryz.prog 196 #[.string a,.string b] w (Ret w (.string r)):=by
 subst hmy
 have hb:=Below.refl w.heap.size w
 have j:∀ p n c q m d w,Sl w p n c X→Sl w q m d Y→Calls Tryz.prog 202 #[.slice q m d,.slice p n c,.int .i64 (-1),.int .i64 0] w (RetP w (pcN (Y - X))):=
   fun p n c q m d w h1 h2=>joined_sl h2 h1 I.lY I.lX ((-1)) (by decide) (by decide) (Y - X) (by omega)
 have J:=Lib.hid j
 have m0:∀ p n c w,Env w→Sl w p n c (Y - X)→Calls Tryz.prog 203 #[.bool (!mx),.slice p n c] w (Ret w (.string r)):=
   fun p n c w E h=>made_sl E h (I.lS _ (by omega)).1 (I.lS _ (by omega)).2 (!mx) r hr
 have M:=Lib.hid m0
 have l:∀ p n c q m d w,Sl w p n c X→Sl w q m d Y→Calls Tryz.prog 221 #[.slice p n c,.slice q m d] w (Ret w (.bool true)):=
   fun p n c q m d w h1 h2=>less_sl h1 h2 I.lX I.lY true (by first | exact decide_eq_true hlt | exact decide_eq_false hlt)
 have L:=Lib.hid l
 clear hr j m0 l hlt
 go_enter Tryz.func196,Tryz.ntmps196
 cases b1 with
 | false =>
   clear hn
   cases mx <;> (go_wp2_with (first | (go_at_call 198;first | (with_reducible refine (chain hb (I.br1 _)).mono ?_;clear hb;rintro e w1 ⟨rfl,hb⟩) | (with_reducible refine (chain hb (I.br2 _)).mono ?_;clear hb;rintro e w1 ⟨rfl,hb⟩)) | (go_at_call 159;first | (with_reducible refine (chain hb (I.sp1 _)).mono ?_;clear hb;rintro e w1 ⟨rfl,hb⟩) | (with_reducible refine (chain hb (I.sp2 _)).mono ?_;clear hb;rintro e w1 ⟨rfl,hb⟩)) | (go_at_call 201;first | (with_reducible refine (chainR hb (I.tk1 _)).mono ?_;clear hb;rintro e w1 ⟨p,n,c,rfl,hp,-,hb⟩) | (with_reducible refine (chainR hb (I.tk2 _)).mono ?_;clear hb;rintro e w2 ⟨q,m,d,rfl,hq,hb1,hb⟩;replace hp:=hp.below hb1;clear hb1)) | (go_at_call 202;refine (chainR hb (J.out _ _ _ _ _ _ _ hp hq)).mono ?_;clear hb hp hq;rintro e w3 ⟨o,l,f,rfl,ho,-,hb⟩) | (go_at_call 221;refine (chain2 hb (L.out _ _ _ _ _ _ _ hp hq)).mono ?_;clear hb;rintro e w4 ⟨rfl,hb1,hb⟩;replace hp:=hp.below hb1;replace hq:=hq.below hb1;clear hb1) | (go_at_call 203;refine (chain hb (M.out _ _ _ _ (E.below hb) ho)).mono ?_;clear hb;rintro e w5 ⟨rfl,hb⟩));go_ret;exact ⟨rfl,hb⟩)
 | true =>
   cases b2 with
   | true=>exact absurd hn (by decide)
   | false =>
     clear hn
     cases mx <;> (go_wp2_with (first | (go_at_call 198;first | (with_reducible refine (chain hb (I.br1 _)).mono ?_;clear hb;rintro e w1 ⟨rfl,hb⟩) | (with_reducible refine (chain hb (I.br2 _)).mono ?_;clear hb;rintro e w1 ⟨rfl,hb⟩)) | (go_at_call 159;first | (with_reducible refine (chain hb (I.sp1 _)).mono ?_;clear hb;rintro e w1 ⟨rfl,hb⟩) | (with_reducible refine (chain hb (I.sp2 _)).mono ?_;clear hb;rintro e w1 ⟨rfl,hb⟩)) | (go_at_call 201;first | (with_reducible refine (chainR hb (I.tk1 _)).mono ?_;clear hb;rintro e w1 ⟨p,n,c,rfl,hp,-,hb⟩) | (with_reducible refine (chainR hb (I.tk2 _)).mono ?_;clear hb;rintro e w2 ⟨q,m,d,rfl,hq,hb1,hb⟩;replace hp:=hp.below hb1;clear hb1)) | (go_at_call 202;refine (chainR hb (J.out _ _ _ _ _ _ _ hp hq)).mono ?_;clear hb hp hq;rintro e w3 ⟨o,l,f,rfl,ho,-,hb⟩) | (go_at_call 221;refine (chain2 hb (L.out _ _ _ _ _ _ _ hp hq)).mono ?_;clear hb;rintro e w4 ⟨rfl,hb1,hb⟩;replace hp:=hp.below hb1;replace hq:=hq.below hb1;clear hb1) | (go_at_call 203;refine (chain hb (M.out _ _ _ _ (E.below hb) ho)).mono ?_;clear hb;rintro e w5 ⟨rfl,hb⟩));go_ret;exact ⟨rfl,hb⟩)
theorem add_more {a b sx sy:ByteArray} {v1 v2:Int} {b1 b2 mx my:Bool} {X Y:Nat} (I:AddIn a b sx sy v1 v2 b1 b2 mx my X Y) (hmy:my = !mx) (hn:(b1 && b2)=false) (hlt:¬ X < Y) (r:ByteArray) (hr:strOf (sgn mx (X - Y))=r) (w:World) (E:Env w) :
   Calls Tryz.prog 196 #[.string a,.string b] w (Ret w (.string r)):=by
 subst hmy
 have hb:=Below.refl w.heap.size w
 have j:∀ p n c q m d w,Sl w p n c X→Sl w q m d Y→Calls Tryz.prog 202 #[.slice p n c,.slice q m d,.int .i64 (-1),.int .i64 0] w (RetP w (pcN (X - Y))):=
   fun p n c q m d w h1 h2=>joined_sl h1 h2 I.lX I.lY ((-1)) (by decide) (by decide) (X - Y) (by omega)
 have J:=Lib.hid j
 have m0:∀ p n c w,Env w→Sl w p n c (X - Y)→Calls Tryz.prog 203 #[.bool (mx),.slice p n c] w (Ret w (.string r)):=
   fun p n c w E h=>made_sl E h (I.lS _ (by omega)).1 (I.lS _ (by omega)).2 (mx) r hr
 have M:=Lib.hid m0
 have l:∀ p n c q m d w,Sl w p n c X→Sl w q m d Y→Calls Tryz.prog 221 #[.slice p n c,.slice q m d] w (Ret w (.bool false)):=
   fun p n c q m d w h1 h2=>less_sl h1 h2 I.lX I.lY false (by first | exact decide_eq_true hlt | exact decide_eq_false hlt)
 have L:=Lib.hid l
 clear hr j m0 l hlt
 go_enter Tryz.func196,Tryz.ntmps196
 cases b1 with
 | false =>
   clear hn
   cases mx <;> (go_wp2_with (first | (go_at_call 198;first | (with_reducible refine (chain hb (I.br1 _)).mono ?_;clear hb;rintro e w1 ⟨rfl,hb⟩) | (with_reducible refine (chain hb (I.br2 _)).mono ?_;clear hb;rintro e w1 ⟨rfl,hb⟩)) | (go_at_call 159;first | (with_reducible refine (chain hb (I.sp1 _)).mono ?_;clear hb;rintro e w1 ⟨rfl,hb⟩) | (with_reducible refine (chain hb (I.sp2 _)).mono ?_;clear hb;rintro e w1 ⟨rfl,hb⟩)) | (go_at_call 201;first | (with_reducible refine (chainR hb (I.tk1 _)).mono ?_;clear hb;rintro e w1 ⟨p,n,c,rfl,hp,-,hb⟩) | (with_reducible refine (chainR hb (I.tk2 _)).mono ?_;clear hb;rintro e w2 ⟨q,m,d,rfl,hq,hb1,hb⟩;replace hp:=hp.below hb1;clear hb1)) | (go_at_call 202;refine (chainR hb (J.out _ _ _ _ _ _ _ hp hq)).mono ?_;clear hb hp hq;rintro e w3 ⟨o,l,f,rfl,ho,-,hb⟩) | (go_at_call 221;refine (chain2 hb (L.out _ _ _ _ _ _ _ hp hq)).mono ?_;clear hb;rintro e w4 ⟨rfl,hb1,hb⟩;replace hp:=hp.below hb1;replace hq:=hq.below hb1;clear hb1) | (go_at_call 203;refine (chain hb (M.out _ _ _ _ (E.below hb) ho)).mono ?_;clear hb;rintro e w5 ⟨rfl,hb⟩));go_ret;exact ⟨rfl,hb⟩)
 | true =>
   cases b2 with
   | true=>exact absurd hn (by decide)
   | false =>
     clear hn
     cases mx <;> (go_wp2_with (first | (go_at_call 198;first | (with_reducible refine (chain hb (I.br1 _)).mono ?_;clear hb;rintro e w1 ⟨rfl,hb⟩) | (with_reducible refine (chain hb (I.br2 _)).mono ?_;clear hb;rintro e w1 ⟨rfl,hb⟩)) | (go_at_call 159;first | (with_reducible refine (chain hb (I.sp1 _)).mono ?_;clear hb;rintro e w1 ⟨rfl,hb⟩) | (with_reducible refine (chain hb (I.sp2 _)).mono ?_;clear hb;rintro e w1 ⟨rfl,hb⟩)) | (go_at_call 201;first | (with_reducible refine (chainR hb (I.tk1 _)).mono ?_;clear hb;rintro e w1 ⟨p,n,c,rfl,hp,-,hb⟩) | (with_reducible refine (chainR hb (I.tk2 _)).mono ?_;clear hb;rintro e w2 ⟨q,m,d,rfl,hq,hb1,hb⟩;replace hp:=hp.below hb1;clear hb1)) | (go_at_call 202;refine (chainR hb (J.out _ _ _ _ _ _ _ hp hq)).mono ?_;clear hb hp hq;rintro e w3 ⟨o,l,f,rfl,ho,-,hb⟩) | (go_at_call 221;refine (chain2 hb (L.out _ _ _ _ _ _ _ hp hq)).mono ?_;clear hb;rintro e w4 ⟨rfl,hb1,hb⟩;replace hp:=hp.below hb1;replace hq:=hq.below hb1;clear hb1) | (go_at_call 203;refine (chain hb (M.out _ _ _ _ (E.below hb) ho)).mono ?_;clear hb;rintro e w5 ⟨rfl,hb⟩));go_ret;exact ⟨rfl,hb⟩)
theorem magB_dlen (x:Int):(magB (itoaB x)).size=dlen x:=by rw [magB_itoa,strOf_size];rfl
theorem magB_dig (x:Int):(magB (itoaB x)).data.toList.all isDig=true:=by rw [magB_itoa];exact List.all_eq_true.2 (fun c hc=>List.all_eq_true.1 (decDigits_dig x.natAbs) c hc)
theorem magB_val (x:Int):val (magB (itoaB x)).data.toList=x.natAbs:=by rw [magB_itoa];exact val_decDigits _
theorem neg_itoaB (x:Int):neg (itoaB x).data.toList=decide (x < 0):=by rw [itoaB_data,neg_itoa]
theorem brief_any (x:Int) (h:dlen x≤100000):∃ v b,(b=true→dlen x≤17)∧∀ w,Calls Tryz.prog 198 #[.string (itoaB x)] w (Ret w (.tuple #[.int .i64 v,.bool b])):=by
 by_cases hs:dlen x≤17
 · exact ⟨x,true,fun _=>hs,fun w=>brief_short x w hs⟩
 · exact ⟨0,false,fun h=>by simp at h,fun w=>brief_long x w (by omega) h⟩
theorem take_itoa (x:Int) (w:World) (h:dlen x≤100000):Calls Tryz.prog 201 #[.string (magB (itoaB x))] w (RetP w (pcN x.natAbs)):=by
 have:=take_any (magB (itoaB x)) w (by rw [magB_dlen];exact h) (magB_dig x)
 rwa [magB_val] at this
theorem add_brief (x y:Int) (w:World) (E:Env w) (hx:dlen x≤17) (hy:dlen y≤17) :
   Calls Tryz.prog 196 #[.string (itoaB x),.string (itoaB y)] w (Ret w (.string (itoaB (x+y)))):=by
 have e1:x.natAbs < 100000000000000000:=Nat.lt_of_lt_of_le (dig_lt _) (Nat.pow_le_pow_right (by decide) hx)
 have e2:y.natAbs < 100000000000000000:=Nat.lt_of_lt_of_le (dig_lt _) (Nat.pow_le_pow_right (by decide) hy)
 have b1:∀ w,Calls Tryz.prog 198 #[.string (itoaB x)] w (Ret w (.tuple #[.int .i64 x,.bool true])):=fun w=>brief_short x w hx
 have b2:∀ w,Calls Tryz.prog 198 #[.string (itoaB y)] w (Ret w (.tuple #[.int .i64 y,.bool true])):=fun w=>brief_short y w hy
 have ew:IntKind.i64.wrap (x+y)=x+y:=IntWalk.i64_in _ (by omega)
 have B1:=Lib.hid b1
 have B2:=Lib.hid b2
 have o1:CE 199 #[.int .i64 (x+y)] (.string (itoaB (x+y))):=fun w E=>refOf_any (x+y) (by omega) (by omega) w E
 have O:=Lib.hid o1
 obtain ⟨a,ha⟩:∃ a,itoaB x=a:=⟨_,rfl⟩
 obtain ⟨b,hb0⟩:∃ b,itoaB y=b:=⟨_,rfl⟩
 rw [ha] at B1 ⊢
 rw [hb0] at B2 ⊢
 clear ha hb0 b1 b2 o1 e1 e2
 have hb:=Below.refl w.heap.size w
 go_enter Tryz.func196,Tryz.ntmps196
 go_wp2_with (first
   | (go_at_call 198;first
     | (with_reducible refine (chain hb (B1.out _)).mono ?_;clear hb;rintro e w1 ⟨rfl,hb⟩)
     | (with_reducible refine (chain hb (B2.out _)).mono ?_;clear hb;rintro e w1 ⟨rfl,hb⟩))
   | (go_at_call 199;(try rw [ew]);refine (chain hb (O.out _ (E.below hb))).mono ?_;clear hb;rintro e w1 ⟨rfl,hb⟩))
 go_ret
 exact ⟨rfl,hb⟩
theorem refAdd_any (x y:Int) (w:World) (E:Env w) (hx:dlen x≤99999) (hy:dlen y≤99999) :
   Calls Tryz.prog 196 #[.string (itoaB x),.string (itoaB y)] w (Ret w (.string (itoaB (x+y)))):=by
 by_cases hs:dlen x≤17∧dlen y≤17
 · exact add_brief x y w E hs.1 hs.2
 obtain ⟨v1,b1,hb1,B1⟩:=brief_any x (by omega)
 obtain ⟨v2,b2,hb2,B2⟩:=brief_any y (by omega)
 have hn:(b1 && b2)=false:=by
   rcases Bool.eq_false_or_eq_true (b1 && b2) with h | h
   · rw [Bool.and_eq_true] at h;exact absurd ⟨hb1 h.1,hb2 h.2⟩ hs
   · exact h
 have S:∀ V,V≤x.natAbs+y.natAbs→(pcN V).length≤100000∧(Lib.decDigits V).length≤1000000:=fun V hV=>by
   have h:=dec_add_len 99999 x.natAbs y.natAbs V (by omega) hx hy hV
   exact ⟨pcN_len_dec V 100000 h,by omega⟩
 have I:AddIn (itoaB x) (itoaB y) (magB (itoaB x)) (magB (itoaB y)) v1 v2 b1 b2 (decide (x < 0)) (decide (y < 0)) x.natAbs y.natAbs:=
   ⟨B1,B2,fun w=>split_any _ w _ (neg_itoaB x),fun w=>split_any _ w _ (neg_itoaB y),fun w=>take_itoa x w (by omega),fun w=>take_itoa y w (by omega),
     (S _ (by omega)).1,(S _ (by omega)).1,S⟩
 by_cases hxy:decide (x < 0)=decide (y < 0)
 · refine add_same I hxy hn _ ?_ w E
   rw [sgn_of (x+y) _ (x.natAbs+y.natAbs) ?_ ?_]
   · rfl
   · rw [decide_eq_decide] at hxy;omega
   · intro h0;rw [decide_eq_decide] at hxy ⊢;omega
 · have hne:decide (y < 0) = !decide (x < 0):=by cases hp:decide (x < 0) <;> cases hq:decide (y < 0) <;> simp_all
   have hsg:(x < 0∧¬ y < 0)∨(¬ x < 0∧y < 0):=by
     rw [decide_eq_decide] at hxy;omega
   by_cases hlt:x.natAbs < y.natAbs
   · refine add_less I hne hn hlt _ ?_ w E
     rw [sgn_of (x+y) _ (y.natAbs - x.natAbs) ?_ ?_]
     · rfl
     · omega
     · intro h0;rw [← hne,decide_eq_decide];omega
   · refine add_more I hne hn hlt _ ?_ w E
     rw [sgn_of (x+y) _ (x.natAbs - y.natAbs) ?_ ?_]
     · rfl
     · omega
     · intro h0;rw [decide_eq_decide];omega
theorem dat_inj {a b:ByteArray} (h:a.data.toList=b.data.toList):a=b:=by
 cases a;cases b;congr;exact Array.toList_inj.1 h
theorem itoa_zero : itoaB 0=⟨#[48]⟩:=by unfold itoaB;rw [show Lib.itoa 0=[48] by rw [itoa_nat _ (by decide)];show Lib.decDigits 0=_;rw [Lib.decDigits];rfl];rfl
theorem itoa_inj {x y:Int} (h:itoaB x=itoaB y):x=y:=by
 have hl:Lib.itoa x=Lib.itoa y:=by rw [← itoaB_data,← itoaB_data,h]
 have h1:=neg_itoa x
 have h2:=val_decDigits x.natAbs
 have h3:=val_decDigits y.natAbs
 rw [← mag_itoa] at h2 h3
 rw [hl] at h1 h2
 rw [neg_itoa] at h1
 rw [h3] at h2
 rw [decide_eq_decide] at h1
 omega
theorem itoa_eq_zero (x:Int):itoaB x=⟨#[48]⟩↔x=0:=by
 rw [← itoa_zero];exact ⟨itoa_inj,fun h=>by rw [h]⟩
theorem refSign_any (x:Int) (w:World):Calls Tryz.prog 162 #[.string (itoaB x)] w (Ret w (.int .i64 x.sign)):=by
 have s1:∀ w,Calls Tryz.prog 159 #[.string (itoaB x)] w (Ret w (.tuple #[.bool (decide (x < 0)),.string (magB (itoaB x))])):=fun w=>split_any _ w _ (neg_itoaB x)
 have hz:((itoaB x).toList == [48])=decide (x=0):=by
   rw [Bool.eq_iff_iff,beq_iff_eq,decide_eq_true_iff,← itoa_eq_zero,Lib.toList_data]
   exact ⟨fun h=>dat_inj h,fun h=>by rw [h]⟩
 obtain ⟨m,hm⟩:∃ m,magB (itoaB x)=m:=⟨_,rfl⟩
 obtain ⟨a,ha⟩:∃ a,itoaB x=a:=⟨_,rfl⟩
 rw [hm,ha] at s1
 rw [ha] at hz ⊢
 have S1:=Lib.hid s1
 clear s1 hm ha
 have hb:=Below.refl w.heap.size w
 go_enter Tryz.func162,Tryz.ntmps162
 rcases Int.lt_trichotomy x 0 with h | h | h
 · have e:x.sign = -1:=Int.sign_eq_neg_one_of_neg h
   rw [e]
   rw [decide_eq_true h] at S1
   clear e h hz
   go_wp2_with (go_at_call 159;refine (chain hb (S1.out _)).mono ?_;clear hb;rintro e w1 ⟨rfl,hb⟩)
   go_ret
   exact ⟨rfl,hb⟩
 · subst h
   rw [decide_eq_false (by decide)] at S1
   rw [decide_eq_true rfl] at hz
   go_wp2_with (go_at_call 159;refine (chain hb (S1.out _)).mono ?_;clear hb;rintro e w1 ⟨rfl,hb⟩)
   go_ret
   exact ⟨rfl,hb⟩
 · have e:x.sign=1:=Int.sign_eq_one_of_pos h
   rw [e]
   rw [decide_eq_false (by omega)] at S1
   rw [decide_eq_false (by omega)] at hz
   clear e h
   go_wp2_with (go_at_call 159;refine (chain hb (S1.out _)).mono ?_;clear hb;rintro e w1 ⟨rfl,hb⟩)
   go_ret
   exact ⟨rfl,hb⟩
theorem refNeg_any (x:Int) (w:World) (hl:dlen x≤100000):Calls Tryz.prog 197 #[.string (itoaB x)] w (Ret w (.string (itoaB (-x)))):=by
 have s1:∀ w,Calls Tryz.prog 159 #[.string (itoaB x)] w (Ret w (.tuple #[.bool (decide (x < 0)),.string (magB (itoaB x))])):=fun w=>split_any _ w _ (neg_itoaB x)
 have hz:((itoaB x).toList == [48])=decide (x=0):=by
   rw [Bool.eq_iff_iff,beq_iff_eq,decide_eq_true_iff,← itoa_eq_zero,Lib.toList_data]
   exact ⟨fun h=>dat_inj h,fun h=>by rw [h]⟩
 have hms:(magB (itoaB x)).size≤100000:=by rw [magB_dlen];exact hl
 have hr0:x≤0→magB (itoaB x)=itoaB (-x):=fun h=>by
   rw [magB_itoa];unfold itoaB
   rw [itoa_nat (-x) (by omega),show (-x).toNat=x.natAbs by omega]
 have hr1:0 < x→(⟨#[45]⟩:ByteArray) ++ magB (itoaB x)=itoaB (-x):=fun h=>by
   rw [magB_itoa,cat_minus];unfold itoaB
   rw [← sgn_of (-x) true x.natAbs (by omega) (fun _=>by rw [decide_eq_true (by omega)])]
   unfold sgn;rw [decide_eq_true (by omega:0 < x.natAbs)];rfl
 obtain ⟨r,hr⟩:∃ r,itoaB (-x)=r:=⟨_,rfl⟩
 obtain ⟨m,hm⟩:∃ m,magB (itoaB x)=m:=⟨_,rfl⟩
 obtain ⟨a,ha⟩:∃ a,itoaB x=a:=⟨_,rfl⟩
 rw [hm,hr] at hr0 hr1
 rw [hm] at hms
 rw [hm,ha] at s1
 rw [ha] at hz
 rw [ha,hr]
 have S1:=Lib.hid s1
 clear s1 hm ha hr hl
 have hb:=Below.refl w.heap.size w
 rcases Int.lt_trichotomy x 0 with h | h | h
 · have R:=Lib.hid (hr0 (by omega))
   rw [decide_eq_true h] at S1
   rw [decide_eq_false (by omega)] at hz
   clear h hr0 hr1
   go_enter Tryz.func197,Tryz.ntmps197
   go_wp2_with (go_at_call 159;refine (chain hb (S1.out _)).mono ?_;clear hb;rintro e w1 ⟨rfl,hb⟩)
   go_ret
   exact ⟨retS R.out,hb⟩
 · have R:=Lib.hid (hr0 (by omega))
   rw [decide_eq_false (by omega)] at S1
   rw [decide_eq_true h] at hz
   clear h hr0 hr1
   go_enter Tryz.func197,Tryz.ntmps197
   go_wp2_with (go_at_call 159;refine (chain hb (S1.out _)).mono ?_;clear hb;rintro e w1 ⟨rfl,hb⟩)
   go_ret
   exact ⟨retS R.out,hb⟩
 · have R:=Lib.hid (hr1 h)
   rw [decide_eq_false (by omega)] at S1
   rw [decide_eq_false (by omega)] at hz
   clear h hr0 hr1
   go_enter Tryz.func197,Tryz.ntmps197
   go_wp2_with (go_at_call 159;refine (chain hb (S1.out _)).mono ?_;clear hb;rintro e w1 ⟨rfl,hb⟩)
   go_ret
   exact ⟨retS R.out,hb⟩
theorem dlen_neg (x:Int):dlen (-x)=dlen x:=by unfold dlen;rw [Int.natAbs_neg]
theorem refSub_any (x y:Int) (w:World) (E:Env w) (hx:dlen x≤99999) (hy:dlen y≤99999) :
   Calls Tryz.prog 163 #[.string (itoaB x),.string (itoaB y)] w (Ret w (.string (itoaB (x - y)))):=by
 have n1:∀ w,Calls Tryz.prog 197 #[.string (itoaB y)] w (Ret w (.string (itoaB (-y)))):=fun w=>refNeg_any y w (by omega)
 have a1:CE 196 #[.string (itoaB x),.string (itoaB (-y))] (.string (itoaB (x - y))):=fun w E=>by
   have:=refAdd_any x (-y) w E hx (by rw [dlen_neg];exact hy)
   rwa [← Int.sub_eq_add_neg] at this
 obtain ⟨r,hr⟩:∃ r,itoaB (x - y)=r:=⟨_,rfl⟩
 obtain ⟨c,hc⟩:∃ c,itoaB (-y)=c:=⟨_,rfl⟩
 obtain ⟨a,ha⟩:∃ a,itoaB x=a:=⟨_,rfl⟩
 obtain ⟨b,hb0⟩:∃ b,itoaB y=b:=⟨_,rfl⟩
 rw [hb0,hc] at n1
 rw [ha,hc,hr] at a1
 rw [ha,hb0,hr]
 have N1:=Lib.hid n1
 have A1:=Lib.hid a1
 clear n1 a1 hr hc ha hb0 hx hy
 have hb:=Below.refl w.heap.size w
 go_enter Tryz.func163,Tryz.ntmps163
 go_wp2_with (first
   | (go_at_call 197;refine (chain hb (N1.out _)).mono ?_;clear hb;rintro e w1 ⟨rfl,hb⟩)
   | (go_at_call 196;refine (chain hb (A1.out _ (E.below hb))).mono ?_;clear hb;rintro e w1 ⟨rfl,hb⟩))
 go_ret
 exact ⟨rfl,hb⟩
theorem refCompare_any (x y:Int) (w:World) (E:Env w) (hx:dlen x≤99999) (hy:dlen y≤99999) :
   Calls Tryz.prog 132 #[.string (itoaB x),.string (itoaB y)] w (Ret w (.int .i64 (x - y).sign)):=by
 have n1:CE 163 #[.string (itoaB x),.string (itoaB y)] (.string (itoaB (x - y))):=fun w E=>refSub_any x y w E hx hy
 have a1:∀ w,Calls Tryz.prog 162 #[.string (itoaB (x - y))] w (Ret w (.int .i64 (x - y).sign)):=fun w=>refSign_any (x - y) w
 obtain ⟨z,hz⟩:∃ z,(x - y).sign=z:=⟨_,rfl⟩
 obtain ⟨r,hr⟩:∃ r,itoaB (x - y)=r:=⟨_,rfl⟩
 obtain ⟨a,ha⟩:∃ a,itoaB x=a:=⟨_,rfl⟩
 obtain ⟨b,hb0⟩:∃ b,itoaB y=b:=⟨_,rfl⟩
 rw [ha,hb0,hr] at n1
 rw [hr,hz] at a1
 rw [ha,hb0,hz]
 have N1:=Lib.hid n1
 have A1:=Lib.hid a1
 clear n1 a1 hr hz ha hb0 hx hy
 have hb:=Below.refl w.heap.size w
 go_enter Tryz.func132,Tryz.ntmps132
 go_wp2_with (first
   | (go_at_call 163;refine (chain hb (N1.out _ (E.below hb))).mono ?_;clear hb;rintro e w1 ⟨rfl,hb⟩)
   | (go_at_call 162;refine (chain hb (A1.out _)).mono ?_;clear hb;rintro e w1 ⟨rfl,hb⟩))
 go_ret
 exact ⟨rfl,hb⟩
theorem itoa_pos_size (x:Int):0 < (itoaB x).size:=by
 unfold itoaB;rw [strOf_size]
 unfold Lib.itoa;split
 · simp
 · exact List.length_pos_iff.2 (decDigits_ne _)
theorem sign_any (x:Int) (w:World):Calls Tryz.prog 49 #[.string (itoaB x)] w (Ret w (.int .i64 x.sign)):=by
 have hz:((itoaB x).toList == [48])=decide (x=0):=by
   rw [Bool.eq_iff_iff,beq_iff_eq,decide_eq_true_iff,← itoa_eq_zero,Lib.toList_data]
   exact ⟨fun h=>dat_inj h,fun h=>by rw [h]⟩
 have h0:=itoa_pos_size x
 have he:((itoaB x).toList == [])=false:=by
   rw [beq_eq_false_iff_ne,Lib.toList_data]
   intro h;rw [size_len,h] at h0;exact absurd h0 (by decide)
 have hn:=neg_itoaB x
 obtain ⟨a,ha⟩:∃ a,itoaB x=a:=⟨_,rfl⟩
 rw [ha] at hz he h0 hn ⊢
 rw [neg_of a h0] at hn
 clear ha
 have h0':(0:Int) < (a.size:Int):=by omega
 rcases Int.lt_trichotomy x 0 with h | h | h
 · have e:x.sign = -1:=Int.sign_eq_neg_one_of_neg h
   rw [e]
   have h2:((a[0].toNat:Int) == 45)=true:=byte_eq (d:=45) rfl (by rw [decide_eq_true h] at hn;simpa using hn)
   rw [decide_eq_false (by omega)] at hz
   clear e h hn
   go_enter Tryz.func49,Tryz.ntmps49
   go_wp2
   go_ret
   exact ⟨rfl,Below.refl _ _⟩
 · have e:x.sign=0:=by rw [h];rfl
   rw [e]
   rw [decide_eq_true h] at hz
   clear e h hn
   go_enter Tryz.func49,Tryz.ntmps49
   go_wp2
   go_ret
   exact ⟨rfl,Below.refl _ _⟩
 · have e:x.sign=1:=Int.sign_eq_one_of_pos h
   rw [e]
   have h2:((a[0].toNat:Int) == 45)=false:=byte_ne (d:=45) rfl (by rw [decide_eq_false (by omega)] at hn;simpa using hn)
   rw [decide_eq_false (by omega)] at hz
   clear e h hn
   go_enter Tryz.func49,Tryz.ntmps49
   go_wp2
   go_ret
   exact ⟨rfl,Below.refl _ _⟩
theorem neg_any (x:Int) (w:World) (hl:dlen x≤100000):Calls Tryz.prog 54 #[.string (itoaB x)] w (Ret w (.string (itoaB (-x)))):=by
 have s1:∀ w,Calls Tryz.prog 49 #[.string (itoaB x)] w (Ret w (.int .i64 x.sign)):=fun w=>sign_any x w
 have hsz:(itoaB x).size≤100001:=itoaB_size x hl
 have h0:=itoa_pos_size x
 have hr0:x < 0→(itoaB x).extract 1 (itoaB x).size=itoaB (-x):=fun h=>by
   rw [magB_minus _ (by rw [neg_itoaB,decide_eq_true h]),magB_itoa];unfold itoaB
   rw [itoa_nat (-x) (by omega),show (-x).toNat=x.natAbs by omega]
 have hr1:0 < x→(⟨#[45]⟩:ByteArray) ++ itoaB x=itoaB (-x):=fun h=>by
   rw [magB_plus (itoaB x) (by rw [neg_itoaB,decide_eq_false (by omega)]),magB_itoa,cat_minus];unfold itoaB
   rw [← sgn_of (-x) true x.natAbs (by omega) (fun _=>by rw [decide_eq_true (by omega)])]
   unfold sgn;rw [decide_eq_true (by omega:0 < x.natAbs)];rfl
 have hr2:x=0→(⟨#[48]⟩:ByteArray)=itoaB (-x):=fun h=>by rw [h];exact itoa_zero.symm
 obtain ⟨r,hr⟩:∃ r,itoaB (-x)=r:=⟨_,rfl⟩
 obtain ⟨a,ha⟩:∃ a,itoaB x=a:=⟨_,rfl⟩
 rw [hr] at hr0 hr1 hr2
 rw [ha] at s1 hsz h0 hr0 hr1
 rw [ha,hr]
 clear ha hr hl
 have h0':(0:Int) < (a.size:Int):=by omega
 have hb:=Below.refl w.heap.size w
 rcases Int.lt_trichotomy x 0 with h | h | h
 · have R:=Lib.hid (hr0 h)
   rw [show x.sign = -1 from Int.sign_eq_neg_one_of_neg h] at s1
   have S1:=Lib.hid s1
   clear h hr0 hr1 hr2 s1
   go_enter Tryz.func54,Tryz.ntmps54
   go_wp2_with (go_at_call 49;refine (chain hb (S1.out _)).mono ?_;clear hb;rintro e w1 ⟨rfl,hb⟩)
   go_ret
   exact ⟨retS R.out,hb⟩
 · have R:=Lib.hid (hr2 h)
   rw [show x.sign=0 by rw [h];rfl] at s1
   have S1:=Lib.hid s1
   clear h hr0 hr1 hr2 s1
   go_enter Tryz.func54,Tryz.ntmps54
   go_wp2_with (go_at_call 49;refine (chain hb (S1.out _)).mono ?_;clear hb;rintro e w1 ⟨rfl,hb⟩)
   go_ret
   exact ⟨retS R.out,hb⟩
 · have R:=Lib.hid (hr1 h)
   rw [show x.sign=1 from Int.sign_eq_one_of_pos h] at s1
   have S1:=Lib.hid s1
   clear h hr0 hr1 hr2 s1
   go_enter Tryz.func54,Tryz.ntmps54
   go_wp2_with (go_at_call 49;refine (chain hb (S1.out _)).mono ?_;clear hb;rintro e w1 ⟨rfl,hb⟩)
   go_ret
   exact ⟨retS R.out,hb⟩
theorem cmp_digs : ∀ (l m:List UInt8),l.length=m.length→l.all isDig=true→m.all isDig=true→Lib.compareBytes l m=Lib.compareInt (val l) (val m)
 | [],[],_,_,_=>rfl
 | [],_ :: _,h,_,_=>by simp at h
 | _ :: _,[],h,_,_=>by simp at h
 | a :: al,b :: bl,h,ha,hb=>by
   rw [List.all_cons,Bool.and_eq_true] at ha hb
   have hl:al.length=bl.length:=by simpa using h
   have ih:=cmp_digs al bl hl ha.2 hb.2
   have h1:=val_lt al ha.2
   have h2:=val_lt bl hb.2
   rw [← hl] at h2
   have da:=ha.1
   have db:=hb.1
   unfold isDig at da db
   rw [Bool.and_eq_true,decide_eq_true_iff,decide_eq_true_iff] at da db
   show (if a < b then (-1:Int) else if b < a then 1 else Lib.compareBytes al bl)=_
   rw [val_cons,val_cons,← hl]
   obtain ⟨P,hP⟩:∃ P,10 ^ al.length=P:=⟨_,rfl⟩
   rw [hP] at h1 h2 ⊢
   have key:∀ u v:Nat,u < v→u*P+P≤v*P:=fun u v huv=>by
     have:=Nat.mul_le_mul_right P (show u+1≤v by omega)
     rwa [Nat.add_mul,Nat.one_mul] at this
   unfold Lib.compareInt
   by_cases c1:a < b
   · have c1':a.toNat < b.toNat:=UInt8.lt_iff_toNat_lt.1 c1
     have:=key (a.toNat - 48) (b.toNat - 48) (by omega)
     rw [if_pos c1,if_pos (by omega)]
   · by_cases c2:b < a
     · have c2':b.toNat < a.toNat:=UInt8.lt_iff_toNat_lt.1 c2
       have:=key (b.toNat - 48) (a.toNat - 48) (by omega)
       rw [if_neg c1,if_pos c2,if_neg (by omega),if_pos (by omega)]
     · have e:a=b:=UInt8.toNat.inj (by
         have h1:¬ a.toNat < b.toNat:=fun h=>c1 (UInt8.lt_iff_toNat_lt.2 h)
         have h2:¬ b.toNat < a.toNat:=fun h=>c2 (UInt8.lt_iff_toNat_lt.2 h)
         omega)
       rw [if_neg c1,if_neg c2,ih,e]
       unfold Lib.compareInt
       by_cases d1:val al < val bl
       · rw [if_pos (by omega),if_pos (by omega)]
       · by_cases d2:val bl < val al
         · rw [if_neg (by omega),if_pos (by omega),if_neg (by omega),if_pos (by omega)]
         · rw [if_neg (by omega),if_neg (by omega),if_neg (by omega),if_neg (by omega)]
def orI (x y:Int):Int:=if x=0 then y else x
theorem or_two (b o c:Nat) (x y:Int) (w:World) (h0:w.cell? ⟨b,o,none⟩=some (.int .i64 x)) (h1:w.cell? ⟨b,o+1,none⟩=some (.int .i64 y)) :
   Calls Tryz.prog 110 #[.slice (some ⟨b,o,none⟩) 2 c] w (Ret w (.int .i64 (orI x y))):=by
 unfold orI
 by_cases hx:x=0
 · rw [if_pos hx]
   subst hx
   by_cases hy:y=0
   · subst hy
     go_enter Tryz.func110,Tryz.ntmps110
     go_wp2
     refine wp_loop_rounds 3 ?_
     rw [rounds_succ]
     go_wp2
     rw [rounds_succ]
     go_wp2
     rw [rounds_succ]
     go_wp2
     go_ret
     exact ⟨rfl,Below.refl _ _⟩
   · have hyb:(y == 0)=false:=by simpa using hy
     go_enter Tryz.func110,Tryz.ntmps110
     go_wp2
     refine wp_loop_rounds 2 ?_
     rw [rounds_succ]
     go_wp2
     rw [rounds_succ]
     go_wp2
     go_ret
     exact ⟨rfl,Below.refl _ _⟩
 · rw [if_neg hx]
   have hxb:(x == 0)=false:=by simpa using hx
   go_enter Tryz.func110,Tryz.ntmps110
   go_wp2
   refine wp_loop_rounds 1 ?_
   rw [rounds_succ]
   go_wp2
   go_ret
   exact ⟨rfl,Below.refl _ _⟩
theorem mag_cmp (X Y:Nat):orI (Lib.compareInt ((Lib.decDigits X).length:Nat) ((Lib.decDigits Y).length:Nat)) (Lib.compareBytes (Lib.decDigits X) (Lib.decDigits Y))=Lib.compareInt X Y:=by
 have key:∀ X Y:Nat,(Lib.decDigits X).length < (Lib.decDigits Y).length→X < Y:=fun X Y h=>by
   refine Nat.lt_of_not_le fun h2=>?_
   have h3:=dec_len_le Y (Lib.decDigits X).length (Nat.lt_of_le_of_lt h2 (dig_lt X)) (List.length_pos_iff.2 (decDigits_ne _))
   omega
 unfold orI
 rcases Nat.lt_trichotomy (Lib.decDigits X).length (Lib.decDigits Y).length with h | h | h
 · have:=key X Y h
   unfold Lib.compareInt
   rw [if_pos (by omega:((Lib.decDigits X).length:Int) < ((Lib.decDigits Y).length:Int)),if_neg (by decide),if_pos (by omega)]
 · rw [cmp_digs _ _ h (decDigits_dig X) (decDigits_dig Y),val_decDigits,val_decDigits]
   unfold Lib.compareInt
   rw [if_neg (by omega:¬ ((Lib.decDigits X).length:Int) < ((Lib.decDigits Y).length:Int)),if_neg (by omega:¬ ((Lib.decDigits X).length:Int) > ((Lib.decDigits Y).length:Int)),if_pos rfl]
 · have:=key Y X h
   unfold Lib.compareInt
   rw [if_neg (by omega:¬ ((Lib.decDigits X).length:Int) < ((Lib.decDigits Y).length:Int)),if_pos (by omega:((Lib.decDigits X).length:Int) > ((Lib.decDigits Y).length:Int)),if_neg (by decide),if_neg (by omega),if_pos (by omega)]
theorem or_built (l z o:Int) (h:orI l z=o) (w:World) :
   Calls Tryz.prog 110 #[.slice (some ⟨w.heap.size,0,none⟩) 2 2] (w.alloc (Obj.cells #[.int .i64 l,.int .i64 z] 3)) (Ret w (.int .i64 o)):=by
 subst h
 exact chain ((Below.refl w.heap.size w).alloc (Nat.le_refl _) _) (or_two w.heap.size 0 2 l z _ (by rw [World.cell?_alloc_new];rfl) (by rw [World.cell?_alloc_new];rfl))
theorem compare_same (a b:ByteArray) (l z s o:Int) (w:World)
   (s1:∀ w,Calls Tryz.prog 49 #[.string a] w (Ret w (.int .i64 s)))
   (s2:∀ w,Calls Tryz.prog 49 #[.string b] w (Ret w (.int .i64 s)))
   (c1:∀ w,Calls Tryz.prog 70 #[.int .i64 a.size,.int .i64 b.size] w fun e w' => e = .returned (.int .i64 l)∧w'=w)
   (c2:∀ w,Calls Tryz.prog 146 #[.string a,.string b] w fun e w' => e = .returned (.int .i64 z)∧w'=w)
   (ho:orI l z=o) (hs:s=1∨s=0∨s = -1) (ho2:o=1∨o=0∨o = -1) :
   Calls Tryz.prog 112 #[.string a,.string b] w (Ret w (.int .i64 (s*o))):=by
 have c0:∀ w,Calls Tryz.prog 70 #[.int .i64 s,.int .i64 s] w fun e w' => e = .returned (.int .i64 0)∧w'=w:=fun w=>by
   have:=Tryz.cmp_Compare_int s s w
   rwa [show Lib.compareInt s s=0 by unfold Lib.compareInt;rw [if_neg (by omega),if_neg (by omega)]] at this
 have OR:=Lib.hid (or_built l z o ho)
 have S1:=Lib.hid s1
 have S2:=Lib.hid s2
 have C0:=Lib.hid c0
 have C1:=Lib.hid c1
 have C2:=Lib.hid c2
 clear s1 s2 c0 c1 c2 ho
 have hb:=Below.refl w.heap.size w
 rcases hs with rfl | rfl | rfl <;> rcases ho2 with rfl | rfl | rfl <;>
   (go_enter Tryz.func112,Tryz.ntmps112
    go_wp2_with (first | (go_at_call 49;first | (with_reducible refine (chain hb (S1.out _)).mono ?_;clear hb;rintro e w1 ⟨rfl,hb⟩) | (with_reducible refine (chain hb (S2.out _)).mono ?_;clear hb;rintro e w1 ⟨rfl,hb⟩)) | (go_at_call 70;first | (with_reducible refine (C0.out _).mono ?_;rintro e w2 ⟨rfl,rfl⟩) | (with_reducible refine (C1.out _).mono ?_;rintro e w2 ⟨rfl,rfl⟩)) | (go_at_call 146;refine (C2.out _).mono ?_;rintro e w2 ⟨rfl,rfl⟩) | (go_at_call 110;refine (OR.out _).mono ?_;rintro e w3 ⟨rfl,hb1⟩;replace hb:=hb.trans (hb1.mono hb.size);clear hb1))
    go_ret
    exact ⟨rfl,hb⟩)
theorem compare_diff (a b:ByteArray) (s t:Int) (w:World)
   (s1:∀ w,Calls Tryz.prog 49 #[.string a] w (Ret w (.int .i64 s)))
   (s2:∀ w,Calls Tryz.prog 49 #[.string b] w (Ret w (.int .i64 t)))
   (o:Int) (ho:Lib.compareInt s t=o) (ho2:o=1∨o = -1) :
   Calls Tryz.prog 112 #[.string a,.string b] w (Ret w (.int .i64 o)):=by
 have c0:∀ w,Calls Tryz.prog 70 #[.int .i64 s,.int .i64 t] w fun e w' => e = .returned (.int .i64 o)∧w'=w:=fun w=>by
   have:=Tryz.cmp_Compare_int s t w
   rwa [ho] at this
 have S1:=Lib.hid s1
 have S2:=Lib.hid s2
 have C0:=Lib.hid c0
 clear s1 s2 c0 ho
 have hb:=Below.refl w.heap.size w
 rcases ho2 with rfl | rfl <;>
   (go_enter Tryz.func112,Tryz.ntmps112
    go_wp2_with (first
     | (go_at_call 49;first
       | (with_reducible refine (chain hb (S1.out _)).mono ?_;clear hb;rintro e w1 ⟨rfl,hb⟩)
       | (with_reducible refine (chain hb (S2.out _)).mono ?_;clear hb;rintro e w1 ⟨rfl,hb⟩))
     | (go_at_call 70;refine (C0.out _).mono ?_;rintro e w2 ⟨rfl,rfl⟩))
    go_ret
    exact ⟨rfl,hb⟩)
theorem cmpInt_tri (x y:Int):Lib.compareInt x y=1∨Lib.compareInt x y=0∨Lib.compareInt x y = -1:=by
 unfold Lib.compareInt;split
 · exact Or.inr (Or.inr rfl)
 · split
   · exact Or.inl rfl
   · exact Or.inr (Or.inl rfl)
theorem itoa_size (x:Int):((itoaB x).size:Int)=dlen x+(if x < 0 then 1 else 0):=by
 unfold itoaB;rw [strOf_size,itoa_len];split <;> omega
theorem cmpInt_add (x y k:Int):Lib.compareInt (x+k) (y+k)=Lib.compareInt x y:=by
 unfold Lib.compareInt
 by_cases h:x < y
 · rw [if_pos h,if_pos (by omega)]
 · rw [if_neg h,if_neg (by omega)]
   by_cases h2:x > y
   · rw [if_pos h2,if_pos (by omega)]
   · rw [if_neg h2,if_neg (by omega)]
theorem sign_cmp (x y:Int):(x - y).sign=Lib.compareInt x y:=by
 unfold Lib.compareInt
 rcases Int.lt_trichotomy x y with h | h | h
 · rw [if_pos h,Int.sign_eq_neg_one_of_neg (by omega)]
 · rw [if_neg (by omega),if_neg (by omega),h,Int.sub_self];rfl
 · rw [if_neg (by omega),if_pos h,Int.sign_eq_one_of_pos (by omega)]
theorem compare_any (x y:Int) (w:World) :
   Calls Tryz.prog 112 #[.string (itoaB x),.string (itoaB y)] w (Ret w (.int .i64 (x - y).sign)):=by
 rw [sign_cmp]
 by_cases hs:x.sign=y.sign
 · have hxy:(x < 0∧y < 0)∨(x=0∧y=0)∨(0 < x∧0 < y):=by
     rcases Int.lt_trichotomy x 0 with h | h | h <;> rcases Int.lt_trichotomy y 0 with h2 | h2 | h2 <;>
       simp_all [Int.sign_eq_neg_one_of_neg,Int.sign_eq_one_of_pos]
   have hm:=mag_cmp x.natAbs y.natAbs
   have hor:orI (Lib.compareInt (itoaB x).size (itoaB y).size) (Lib.compareBytes (itoaB x).data.toList (itoaB y).data.toList)=Lib.compareInt x.natAbs y.natAbs:=by
     rw [← hm,itoa_size,itoa_size,itoaB_data,itoaB_data]
     rcases hxy with ⟨h1,h2⟩ | h
     · rw [if_pos h1,if_pos h2,cmpInt_add]
       unfold Lib.itoa
       rw [if_pos h1,if_pos h2]
       rfl
     · have h1:¬ x < 0:=by omega
       have h2:¬ y < 0:=by omega
       rw [if_neg h1,if_neg h2,cmpInt_add,itoa_nat x (by omega),itoa_nat y (by omega),show x.toNat=x.natAbs by omega,show y.toNat=y.natAbs by omega]
       rfl
   have:=compare_same (itoaB x) (itoaB y) _ _ x.sign _ w (fun w=>sign_any x w) (fun w=>by rw [hs];exact sign_any y w) (fun w=>Tryz.cmp_Compare_int _ _ w) (fun w=>Tryz.strings_Compare _ _ w) hor
     (by rcases Int.lt_trichotomy x 0 with h | h | h
         · exact Or.inr (Or.inr (Int.sign_eq_neg_one_of_neg h))
         · exact Or.inr (Or.inl (by rw [h];rfl))
         · exact Or.inl (Int.sign_eq_one_of_pos h)) (cmpInt_tri _ _)
   have e:x.sign*Lib.compareInt x.natAbs y.natAbs=Lib.compareInt x y:=by
     rcases hxy with ⟨h1,h2⟩ | ⟨h1,h2⟩ | ⟨h1,h2⟩
     · rw [Int.sign_eq_neg_one_of_neg h1]
       unfold Lib.compareInt
       rcases Int.lt_trichotomy x y with h | h | h
       · rw [if_neg (by omega),if_pos (by omega),if_pos h];rfl
       · rw [if_neg (by omega),if_neg (by omega),if_neg (by omega),if_neg (by omega)];rfl
       · rw [if_pos (by omega),if_neg (by omega),if_pos h];rfl
     · rw [h1,h2];rfl
     · rw [Int.sign_eq_one_of_pos h1,show ((x.natAbs:Nat):Int)=x by omega,show ((y.natAbs:Nat):Int)=y by omega,Int.one_mul]
   rwa [e] at this
 · have e:Lib.compareInt x.sign y.sign=Lib.compareInt x y∧(Lib.compareInt x y=1∨Lib.compareInt x y = -1):=by
     have key:∀ z:Int,(z < 0∧z.sign = -1)∨(z=0∧z.sign=0)∨(0 < z∧z.sign=1):=fun z=>by
       rcases Int.lt_trichotomy z 0 with h | h | h
       · exact Or.inl ⟨h,Int.sign_eq_neg_one_of_neg h⟩
       · exact Or.inr (Or.inl ⟨h,by rw [h];rfl⟩)
       · exact Or.inr (Or.inr ⟨h,Int.sign_eq_one_of_pos h⟩)
     have kx:=key x
     have ky:=key y
     by_cases h:x < y
     · have e1:Lib.compareInt x y = -1:=by unfold Lib.compareInt;rw [if_pos h]
       have e2:Lib.compareInt x.sign y.sign = -1:=by unfold Lib.compareInt;rw [if_pos (by omega)]
       exact ⟨by rw [e1,e2],Or.inr e1⟩
     · have hne:x≠y:=fun h=>hs (by rw [h])
       have e1:Lib.compareInt x y=1:=by unfold Lib.compareInt;rw [if_neg h,if_pos (by omega)]
       have e2:Lib.compareInt x.sign y.sign=1:=by unfold Lib.compareInt;rw [if_neg (by omega),if_pos (by omega)]
       exact ⟨by rw [e1,e2],Or.inl e1⟩
   exact compare_diff (itoaB x) (itoaB y) x.sign y.sign w (fun w=>sign_any x w) (fun w=>sign_any y w) _ e.1 e.2
theorem dig_unique : ∀ (l m:List UInt8),l.length=m.length→l.all isDig=true→m.all isDig=true→val l=val m→l=m
 | [],[],_,_,_,_=>rfl
 | [],_ :: _,h,_,_,_=>by simp at h
 | _ :: _,[],h,_,_,_=>by simp at h
 | a :: al,b :: bl,h,ha,hb,hv=>by
   rw [List.all_cons,Bool.and_eq_true] at ha hb
   have hl:al.length=bl.length:=by simpa using h
   have h1:=val_lt al ha.2
   have h2:=val_lt bl hb.2
   have da:=isDig_iff.1 ha.1
   have db:=isDig_iff.1 hb.1
   rw [val_cons,val_cons,← hl] at hv
   rw [← hl] at h2
   have ih:=dig_unique al bl hl ha.2 hb.2
   obtain ⟨P,hP⟩:∃ P,10 ^ al.length=P:=⟨_,rfl⟩
   rw [hP] at h1 h2 hv
   have key:∀ u v:Nat,u < v→u*P+P≤v*P:=fun u v huv=>by
     have:=Nat.mul_le_mul_right P (show u+1≤v by omega)
     rwa [Nat.add_mul,Nat.one_mul] at this
   have hd:a.toNat - 48=b.toNat - 48:=by
     rcases Nat.lt_trichotomy (a.toNat - 48) (b.toNat - 48) with c | c | c
     · have:=key _ _ c;omega
     · exact c
     · have:=key _ _ c;omega
   rw [hd] at hv
   have e1:a=b:=UInt8.toNat.inj (by omega)
   rw [e1,ih (by omega)]
theorem dec_of_canon {m:List UInt8} (h:m.all isDig=true) (h0:m≠[]) (h1:m.head? = some 48→m.length=1):m=Lib.decDigits (val m):=by
 refine dig_unique _ _ ?_ h (decDigits_dig _) (val_decDigits _).symm
 have hp:0 < m.length:=List.length_pos_iff.2 h0
 have a1:=dec_len_le (val m) m.length (val_lt m h) hp
 by_cases hh:m.head? = some 48
 · have:=List.length_pos_iff.2 (decDigits_ne (val m))
   have:=h1 hh
   omega
 · have a2:=val_ge_of_head h h0 hh
   have a3:10 ^ (m.length - 1) < 10 ^ (Lib.decDigits (val m)).length:=Nat.lt_of_le_of_lt a2 (dig_lt _)
   have a4:=(Nat.pow_lt_pow_iff_right (by decide:1 < 10)).1 a3
   omega
theorem canon_is_itoa {l:List UInt8} (h:canonB l=true):∃ x:Int,l=Lib.itoa x∧dlen x=(mag l).length:=by
 obtain ⟨h1,h2,h3⟩:=canon_parts h
 have e:=dec_of_canon h1 h2 (fun hh=>(h3 hh).2)
 cases hn:neg l with
 | false =>
   have em:=mag_pos hn
   refine ⟨(val (mag l):Int),?_,?_⟩
   · rw [itoa_nat _ (by omega),show ((val (mag l):Nat):Int).toNat=val (mag l) by omega,← e,em]
   · unfold dlen;rw [show ((val (mag l):Nat):Int).natAbs=val (mag l) by omega,← e]
 | true =>
   have hpos:0 < val (mag l):=by
     have hh:(mag l).head? ≠ some 48:=fun hh=>by have:=(h3 hh).1;rw [hn] at this;cases this
     exact Nat.lt_of_lt_of_le (Nat.pow_pos (by decide)) (val_ge_of_head h1 h2 hh)
   refine ⟨-(val (mag l):Int),?_,?_⟩
   · rw [← sgn_of (-(val (mag l):Int)) true (val (mag l)) (by omega) (fun _=>by rw [decide_eq_true (by omega)])]
     unfold sgn;rw [decide_eq_true hpos,← e];exact mag_neg_cons hn
   · unfold dlen;rw [show (-(val (mag l):Int)).natAbs=val (mag l) by omega,← e]
set_option maxRecDepth 512 in
theorem refAbs_any (x:Int) (w:World) :
   Calls Tryz.prog 164 #[.string (itoaB x)] w (Ret w (.string (itoaB x.natAbs))):=by
 have s1:∀ w,Calls Tryz.prog 159 #[.string (itoaB x)] w (Ret w (.tuple #[.bool (decide (x < 0)),.string (magB (itoaB x))])):=fun w=>split_any _ w _ (neg_itoaB x)
 have e:magB (itoaB x)=itoaB x.natAbs:=by
   rw [magB_itoa];unfold itoaB;rw [itoa_nat _ (by omega)];rfl
 rw [e] at s1
 obtain ⟨c,hc⟩:∃ c,decide (x < 0)=c:=⟨_,rfl⟩
 obtain ⟨r,hr⟩:∃ r,itoaB x.natAbs=r:=⟨_,rfl⟩
 obtain ⟨a,ha⟩:∃ a,itoaB x=a:=⟨_,rfl⟩
 rw [hc,hr,ha] at s1
 rw [hr,ha]
 have S1:=Lib.hid s1
 clear s1 e hc hr ha
 have hb:=Below.refl w.heap.size w
 go_enter Tryz.func164,Tryz.ntmps164
 go_wp2_with (go_at_call 159;refine (chain hb (S1.out _)).mono ?_;clear hb;rintro e w1 ⟨rfl,hb⟩)
 go_ret
 exact ⟨rfl,hb⟩
end Go.Proofs.YtejfiegmdllfbaaGreatDoor.Kl
