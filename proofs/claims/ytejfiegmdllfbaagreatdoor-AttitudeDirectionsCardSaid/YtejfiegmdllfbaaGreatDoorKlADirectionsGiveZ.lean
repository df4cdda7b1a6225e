import Derived.Test.YtejfiegmdllfbaaGreatDoorKlADirectionsJoined
import Derived.Test.YtejfiegmdllfbaaGreatDoorKlBGiveZ
namespace Go.Proofs.YtejfiegmdllfbaaGreatDoor.Kl
open Go Go.RowKit
set_option maxRecDepth 100000
set_option maxHeartbeats 8000000
theorem dec_four {u:Nat} (h:10000≤u):Lib.decDigits u=Lib.decDigits (u / 10000) ++ [UInt8.ofNat (48+u / 1000 % 10),UInt8.ofNat (48+u / 100 % 10),UInt8.ofNat (48+u / 10 % 10),UInt8.ofNat (48+u % 10)]:=by
 rw [dec_big (u:=u) (by omega),dec_big (u:=u / 10) (by omega),dec_big (u:=u / 10 / 10) (by omega),dec_big (u:=u / 10 / 10 / 10) (by omega)]
 rw [show u / 10 / 10 / 10 / 10=u / 10000 by omega,show u / 10 / 10 / 10=u / 1000 by omega,show u / 10 / 10=u / 100 by omega]
 simp
theorem dec_piece (A b:Nat) (hA:0 < A) (hb:b < 10000):Lib.decDigits (10000*A+b)=Lib.decDigits A ++ (Lib.decDigits (10000+b)).tail:=by
 rw [dec_four (u:=10000*A+b) (by omega),dec_four (u:=10000+b) (by omega),show (10000+b) / 10000=1 by omega,show (10000*A+b) / 10000=A by omega]
 rw [show Lib.decDigits 1=[49] by rw [Lib.decDigits];rfl]
 rw [show (10000*A+b) / 1000 % 10=(10000+b) / 1000 % 10 by omega,show (10000*A+b) / 100 % 10=(10000+b) / 100 % 10 by omega,show (10000*A+b) / 10 % 10=(10000+b) / 10 % 10 by omega,show (10000*A+b) % 10=(10000+b) % 10 by omega]
 rfl
def giveB (xs:List Int) (k:Nat):ByteArray:=strOf (Lib.decDigits (pval 10000 (xs.drop k)).toNat)
theorem give_step {xs:List Int} (h:IsP 10000 xs) {j:Nat} (hj:j+1 < xs.length) :
   giveB xs (j+1) ++ (itoaB (10000+xs[j]?.getD 0)).extract 1 (itoaB (10000+xs[j]?.getD 0)).size=giveB xs j:=by
 have hjl:j < xs.length:=by omega
 have hx:=h.1 xs[j] (List.getElem_mem hjl)
 have hpos:=isP_pos (by decide:(0:Int) < 10000) (drop_isP (j+1) h) (by
   intro e;have:=congrArg List.length e;rw [List.length_drop] at this;simp at this;omega)
 have e1:pval 10000 (xs.drop j)=xs[j]+10000*pval 10000 (xs.drop (j+1)):=by rw [← List.getElem_cons_drop hjl];rfl
 have e2:xs[j]?.getD 0=xs[j]:=by rw [List.getElem?_eq_getElem hjl];rfl
 rw [e2]
 unfold giveB
 have e3:(pval 10000 (xs.drop j)).toNat=10000*(pval 10000 (xs.drop (j+1))).toNat+xs[j].toNat:=by rw [e1];omega
 rw [e3,dec_piece _ _ (by omega) (by omega)]
 have e4:Lib.itoa (10000+xs[j])=Lib.decDigits (10000+xs[j].toNat):=by
   rw [itoa_nat _ (by omega)];congr 1;omega
 apply eq_strOf
 have e5:((itoaB (10000+xs[j])).extract 1 (itoaB (10000+xs[j])).size).data.toList=(Lib.decDigits (10000+xs[j].toNat)).tail:=by
   rw [Lib.extract_to_end,show (itoaB (10000+xs[j])).data.toList=Lib.itoa (10000+xs[j]) from rfl,e4,List.drop_one]
 rw [ByteArray.data_append,Array.toList_append,e5]
 rfl
theorem itoa_five (z:Int) (h0:0≤z) (h1:z < 10000):(itoaB (10000+z)).size=5:=by
 unfold itoaB
 rw [strOf_size,itoa_nat _ (by omega),dec_four (by omega),show (10000+z).toNat / 10000=1 by omega,show Lib.decDigits 1=[49] by rw [Lib.decDigits];rfl]
 rfl
theorem give_some (b o n c:Nat) (xs:List Int) (w:World) (E:Env w) (hn:n=xs.length) (hm:n≤100000) (h0:0 < n) (hlt:b < w.heap.size) (hx:IsP 10000 xs)
   (hcell:∀ i,i < xs.length→w.cell? ⟨b,o+i,none⟩=some (.int .i64 (xs[i]?.getD 0))) :
   Calls Tryz.prog 225 #[.slice (some ⟨b,o,none⟩) n c] w (Ret w (.string (giveB xs 0))):=by
 have HN:=Lib.hid hn
 have HX:=Lib.hid hx
 have HC:=Lib.hid hcell
 have hinr:∀ i:Nat,0≤xs[i]?.getD 0∧xs[i]?.getD 0 < 10000:=fun i=>by
   by_cases hi:i < xs.length
   · rw [List.getElem?_eq_getElem hi];exact hx.1 _ (List.getElem_mem hi)
   · rw [List.getElem?_eq_none (by omega)];decide
 have HI:=Lib.hid hinr
 clear hn hx hcell hinr
 obtain ⟨j,rfl⟩:∃ j,n=j+1:=⟨n - 1,by omega⟩
 have hcj:=HC.out j (by have:=HN.out;omega)
 have hzj:=HI.out j
 have hstart:itoaB (xs[j]?.getD 0)=giveB xs j:=by
   have hjl:j < xs.length:=by have:=HN.out;omega
   unfold giveB itoaB
   rw [itoa_nat _ hzj.1]
   have e:xs.drop j=[xs[j]?.getD 0]:=by
     rw [← List.getElem_cons_drop hjl,List.drop_eq_nil_of_le (by have:=HN.out;omega),List.getElem?_eq_getElem hjl];rfl
   rw [e]
   show strOf _=strOf (Lib.decDigits (xs[j]?.getD 0+10000*0).toNat)
   simp
 have hss:(giveB xs j).size≤21:=by
   rw [← hstart];unfold itoaB;rw [strOf_size];exact Lib.itoa_length_le _ (by omega) (by omega)
 have HS:=Lib.hid hstart
 obtain ⟨z,hz⟩:∃ z,xs[j]?.getD 0=z:=⟨_,rfl⟩
 rw [hz] at hcj hzj
 have HZ:=Lib.hid hz
 clear hstart hz
 have c1:∀ w1,Below w.heap.size w w1→Calls Tryz.prog 149 #[.int .i64 z] w1 fun e w' => e = .returned (.string (giveB xs j))∧Below w1.heap.size w1 w':=fun w1 hb=>by
   rw [← HS.out,HZ.out];exact itoa_call z (by omega) (by omega) w1 (E.below hb)
 have C1:=Lib.hid c1
 clear c1
 have hb:=Below.refl w.heap.size w
 go_enter Tryz.func225,Tryz.ntmps225
 go_wp2_with (go_at_call 149;refine (chain hb (C1.out _ hb)).mono ?_;clear hb;rintro e w1 ⟨rfl,hb⟩)
 go_loopw [3,4] (fun v iv2 wr=>∃ k:Nat,k≤j∧iv2 = .int .i64 ((k:Int) - 1)∧v = .string (giveB xs k)∧(giveB xs k).size≤21+4*(j - k)∧Below w.heap.size w wr) (fun _ iv2 _=>(intOf iv2+1).toNat)
 case atStart=>exact ⟨j,Nat.le_refl _,by go_num,rfl,by omega,hb⟩
 case round =>
   obtain ⟨k,hk,rfl,rfl,hsz,hb⟩:=hrel
   by_cases hk0:k=0
   · subst hk0
     go_wp2
     go_ret
     exact ⟨rfl,hb⟩
   · obtain ⟨i,rfl⟩:∃ i,k=i+1:=⟨k - 1,by omega⟩
     have hci:=(hb.cell (p:=⟨b,o+i,none⟩) hlt).trans (HC.out i (by have:=HN.out;omega))
     have hzi:=HI.out i
     have hst:=give_step HX.out (j:=i) (by have:=HN.out;omega)
     have h5:=itoa_five _ hzi.1 hzi.2
     obtain ⟨y,hy⟩:∃ y,xs[i]?.getD 0=y:=⟨_,rfl⟩
     rw [hy] at hci hzi hst h5
     obtain ⟨X,hX⟩:∃ X,itoaB (10000+y)=X:=⟨_,rfl⟩
     rw [hX] at hst h5
     have c2:∀ w1,Below w.heap.size w w1→Calls Tryz.prog 149 #[.int .i64 (10000+y)] w1 fun e w' => e = .returned (.string X)∧Below w1.heap.size w1 w':=fun w1 hb=>by
       rw [← hX];exact itoa_call (10000+y) (by omega) (by omega) w1 (E.below hb)
     have C2:=Lib.hid c2
     have HST:=Lib.hid hst
     have hsz2:(giveB xs i).size≤21+4*(j - i):=by
       rw [← hst,ByteArray.size_append,ByteArray.size_extract];omega
     have hXs:X.size≤5:=by omega
     have hXp:1≤X.size:=by omega
     have H5:=Lib.hid h5
     clear hy hX c2 hst h5
     go_wp2_with (go_at_call 149;refine (chain hb (C2.out _ hb)).mono ?_;clear hb;rintro e w1 ⟨rfl,hb⟩)
     go_roundw
     case rel=>exact ⟨i,by omega,rfl,by rw [HST.out],hsz2,hb⟩
     case measure=>simp [intOf]
theorem give_none (p:Option Addr) (c:Nat) (w:World) :
   Calls Tryz.prog 225 #[.slice p 0 c] w (Ret w (.string ⟨#[48]⟩)):=by
 go_enter Tryz.func225,Tryz.ntmps225
 go_wp2
 go_ret
 exact ⟨rfl,Below.refl _ _⟩
theorem give_any (p:Option Addr) (n c N:Nat) (w:World) (E:Env w) (hn:n=(pcN N).length) (hm:n≤100000) (h:Has w p (pcN N)) :
   Calls Tryz.prog 225 #[.slice p n c] w (Ret w (.string (strOf (Lib.decDigits N)))):=by
 obtain ⟨hI,hV⟩:=pcN_isP N
 by_cases h0:N=0
 · subst h0
   have e:pcN 0=[]:=by rw [pcN,dif_pos rfl]
   rw [e] at hn
   obtain rfl:n=0:=hn
   rw [decDigits_zero]
   exact give_none p c w
 · have hne:pcN N≠[]:=by rw [pcN,dif_neg h0];simp
   rcases h with h | ⟨b,o,rfl,hlt,hcell⟩
   · exact absurd h hne
   · have:=give_some b o n c (pcN N) w E hn hm (by rw [hn];exact List.length_pos_iff.2 hne) hlt hI hcell
     have e:giveB (pcN N) 0=strOf (Lib.decDigits N):=by unfold giveB;rw [List.drop_zero,hV];rfl
     rwa [e] at this
theorem pcN_trim (N:Nat):trimP (pcN N)=pcN N:=by
 obtain ⟨hI,hV⟩:=pcN_isP N
 rw [trim_pcN hI.1,hV];rfl
theorem made_any (b:Bool) (p:Option Addr) (n c N:Nat) (w:World) (E:Env w) (hn:n=(pcN N).length) (hm:n≤100000) (hnc:n≤c) (hc:c≤9223372036854775807) (hpn:p=none→c=0) (h:Has w p (pcN N)) (hd:(Lib.decDigits N).length≤1000000) :
   Calls Tryz.prog 203 #[.bool b,.slice p n c] w (Ret w (.string (strOf (sgn b N)))):=by
 have HC:=Lib.hid (cut_any p n c (pcN N) w hn hnc hc hpn h)
 have HN:=Lib.hid hn
 clear hn h hpn
 have hg:∀ (p2:Option Addr) (n2 c2:Nat) (w1:World),RetP w (trimP (pcN N)) (.returned (.slice p2 n2 c2)) w1→Calls Tryz.prog 225 #[.slice p2 n2 c2] w1 fun e w' => e = .returned (.string (strOf (Lib.decDigits N)))∧Below w1.heap.size w1 w':=fun p2 n2 c2 w1 hr=>by
   rw [pcN_trim] at hr
   obtain ⟨p3,n3,c3,h1,h2,h3,h4,h5,h6,h7⟩:=hr
   injection h1 with h1
   injection h1 with e1 e2 e3
   subst e1;subst e2;subst e3
   exact give_any p2 n2 c2 N w1 (E.below h7) h2 (by rw [h2,← HN.out];exact hm) h6
 have HG:=Lib.hid hg
 clear hg
 go_enter Tryz.func203,Tryz.ntmps203
 go_wp2_with (go_at_call 223;refine HC.out.mono ?_;rintro e w1 ⟨p2,n2,c2,rfl,hr⟩;have HR:=Lib.hid hr;clear hr;refine Hid.out ?_)
 refine Lib.hid ?_
 have hb:=HR.out.2.2.2.2.2
 have hg2:=HG.out p2 n2 c2 w1 ⟨p2,n2,c2,rfl,HR.out⟩
 have hn2:n2=(pcN N).length:=by have:=HR.out.1;rwa [pcN_trim] at this
 have HG2:=Lib.hid hg2
 have HN2:=Lib.hid hn2
 clear hg2
 by_cases h0:0 < N
 · have hp:0 < n2:=by
     rw [hn2];refine List.length_pos_iff.2 ?_;rw [pcN,dif_neg (by omega)];simp
   have hp2:(0:Int) < (n2:Int):=by omega
   have hsz:(strOf (Lib.decDigits N)).size≤1000000:=by rw [strOf_size];exact hd
   clear hn2
   cases b with
   | true =>
     go_wp2_with (go_at_call 225;refine (chain hb HG2.out).mono ?_;clear hb;rintro e w2 ⟨rfl,hb⟩)
     go_ret
     exact ⟨retS (by rw [cat_minus];unfold sgn;rw [decide_eq_true h0];rfl),hb⟩
   | false =>
     go_wp2_with (go_at_call 225;refine (chain hb HG2.out).mono ?_;clear hb;rintro e w2 ⟨rfl,hb⟩)
     go_ret
     exact ⟨rfl,hb⟩
 · have hz:N=0:=by omega
   have hp:n2=0:=by rw [hn2,hz,pcN,dif_pos rfl];rfl
   have HZ:=Lib.hid hz
   clear hn2 hz
   subst hp
   cases b with
   | true =>
     go_wp2_with (go_at_call 225;refine (chain hb HG2.out).mono ?_;clear hb;rintro e w2 ⟨rfl,hb⟩)
     go_ret
     exact ⟨retS (by unfold sgn;rw [decide_eq_false h0];rfl),hb⟩
   | false =>
     go_wp2_with (go_at_call 225;refine (chain hb HG2.out).mono ?_;clear hb;rintro e w2 ⟨rfl,hb⟩)
     go_ret
     exact ⟨rfl,hb⟩
theorem pcN_len (N:Nat) (k:Nat) (h:N < 10000 ^ k):(pcN N).length≤k:=by
 by_cases h0:N=0
 · subst h0;rw [pcN,dif_pos rfl];exact Nat.zero_le _
 · obtain ⟨hI,hV⟩:=pcN_isP N
   rcases snoc_cases (pcN N) with e | ⟨ys,y,e⟩
   · rw [e];exact Nat.zero_le _
   · have hy:y≠0:=fun e2=>hI.2 (by rw [e,e2];simp)
     have hy1:=hI.1 y (by rw [e];simp)
     have h1:0≤pval 10000 ys:=pval_nonneg (by decide) (fun u hu=>hI.1 u (by rw [e];exact List.mem_append_left _ hu))
     rw [e,pval_append] at hV
     have h2:(10000:Int) ^ ys.length*1≤10000 ^ ys.length*pval 10000 [y]:=Int.mul_le_mul_of_nonneg_left (by show 1≤y+10000*0;omega) (Int.le_of_lt (Int.pow_pos (by decide)))
     have h3:(10000:Int) ^ ys.length≤(N:Int):=by omega
     have h4:10000 ^ ys.length≤N:=by
       have:((10000 ^ ys.length:Nat):Int)≤(N:Int):=by rw [Int.natCast_pow];exact h3
       omega
     rw [e,List.length_append]
     have h5:10000 ^ ys.length < 10000 ^ k:=Nat.lt_of_le_of_lt h4 h
     have:=(Nat.pow_lt_pow_iff_right (by decide:1 < 10000)).1 h5
     simp;omega
theorem pcN_len_dec (N k:Nat) (h:(Lib.decDigits N).length≤k):(pcN N).length≤k:=by
 refine pcN_len N k (Nat.lt_of_lt_of_le (dig_lt N) ?_)
 exact Nat.le_trans (Nat.pow_le_pow_right (by decide) h) (Nat.pow_le_pow_left (by decide) k)
theorem brief_short (x:Int) (w:World) (h:dlen x≤17) :
   Calls Tryz.prog 198 #[.string (itoaB x)] w (Ret w (.tuple #[.int .i64 x,.bool true])):=by
 have hlt:x.natAbs < 10 ^ 17:=Nat.lt_of_lt_of_le (dig_lt _) (Nat.pow_le_pow_right (by decide) h)
 have hlt':x.natAbs < 100000000000000000:=hlt
 have hm:(magB (itoaB x)).size≤17:=by rw [magB_itoa,strOf_size];exact h
 have hs:(itoaB x).size≤1000000:=by have:=itoaB_size x (by omega);omega
 have h1:=refSmall_any (itoaB x) w hs (canon_itoa x)
 have e1:smI (itoaB x).data.toList=x:=by unfold smI;rw [itoaB_data,smallV_itoa x (by omega) (by omega)];rfl
 have e2:smB (itoaB x).data.toList=true:=by unfold smB;rw [itoaB_data,smallV_itoa x (by omega) (by omega)];rfl
 have c1:∀ w,Calls Tryz.prog 222 #[.string (itoaB x)] w (Ret w (.tuple #[.int .i64 x,.bool true])):=fun w=>by
   have:=refSmall_any (itoaB x) w hs (canon_itoa x);rwa [e1,e2] at this
 have C1:=Lib.hid c1
 obtain ⟨a,ha⟩:∃ a,itoaB x=a:=⟨_,rfl⟩
 rw [ha] at hm hs C1 ⊢
 clear c1 h1 e1 e2 hlt ha
 have hb:=Below.refl w.heap.size w
 go_enter Tryz.func198,Tryz.ntmps198
 go_wp2_with (first | (go_at_call 159;refine (chain hb (split_any _ _ _ rfl)).mono ?_;clear hb;rintro e w1 ⟨rfl,hb⟩) | (go_at_call 222;refine (chain hb (C1.out _)).mono ?_;clear hb;rintro e w1 ⟨rfl,hb⟩))
 go_ret2
 exact ⟨rfl,hb⟩
theorem brief_long (x:Int) (w:World) (h:17 < dlen x) (hl:dlen x≤100000) :
   Calls Tryz.prog 198 #[.string (itoaB x)] w (Ret w (.tuple #[.int .i64 0,.bool false])):=by
 have hm:17 < (magB (itoaB x)).size:=by rw [magB_itoa,strOf_size];exact h
 have hs:(itoaB x).size≤1000000:=by have:=itoaB_size x hl;omega
 have hml:=magB_le (itoaB x)
 obtain ⟨a,ha⟩:∃ a,itoaB x=a:=⟨_,rfl⟩
 rw [ha] at hm hs hml ⊢
 clear ha
 have hb:=Below.refl w.heap.size w
 go_enter Tryz.func198,Tryz.ntmps198
 go_wp2_with (first | (go_at_call 159;refine (chain hb (split_any _ _ _ rfl)).mono ?_;clear hb;rintro e w1 ⟨rfl,hb⟩))
 go_ret2
 exact ⟨rfl,hb⟩
theorem joined_any (p q:Option Addr) (n c m d N M:Nat) (k:Int) (w:World) (hn:n=(pcN N).length) (hm:m=(pcN M).length) (hnl:n≤100000) (hml:m≤100000) (hnc:n≤c) (hpc:p=none→c=0)
   (hp:Has w p (pcN N)) (hq:Has w q (pcN M)) (hk0 : -10000≤k) (hk1:k≤10000) (hV0:0≤(N:Int)+k*M) :
   Calls Tryz.prog 202 #[.slice p n c,.slice q m d,.int .i64 k,.int .i64 0] w (RetP w (pcN ((N:Int)+k*M).toNat)):=by
 have hr:∀ N:Nat,∀ j:Nat,0≤(pcN N)[j]?.getD 0∧(pcN N)[j]?.getD 0 < 10000:=fun N j=>by
   rcases h:(pcN N)[j]? with _ | z
   · exact ⟨by decide,by decide⟩
   · exact (pcN_isP N).1.1 z (List.mem_of_getElem? h)
 have eN:=(pcN_isP N).2
 have eM:=(pcN_isP M).2
 have e:pval 10000 (pcN N)+k*pval 10000 (pcN M)=(N:Int)+k*M:=by rw [eN,eM]
 rcases p with _ | ad
 · obtain rfl:=hpc rfl
   obtain rfl:n=0:=by omega
   have:=joined_nil q 0 m d (pcN N) (pcN M) k w hn hm hnl hml hp hq hk0 hk1 (hr N) (hr M) (by rw [e];exact hV0)
   rwa [e] at this
 · have:=joined_some ad q n c m d (pcN N) (pcN M) k w hn hm hnl hml hp hq hk0 hk1 (hr N) (hr M) (by rw [e];exact hV0)
   rwa [e] at this
theorem chainR {P:Program} {K:FuncId} {args:Array Value} {w w0:World} {X:Nat} (hb:Below w0.heap.size w0 w) (h:Calls P K args w (RetP w (pcN X))) :
   Calls P K args w fun e w' => ∃ p n c,e = .returned (.slice p n c)∧Sl w' p n c X∧Below w.heap.size w w'∧Below w0.heap.size w0 w':=
 h.mono fun _ _ ⟨p,n,c,e,h1,h2,h3,h4,h5,h6⟩=>⟨p,n,c,e,⟨h1,h2,h3,h4,h5⟩,h6,hb.trans (h6.mono hb.size)⟩
theorem less_sl {p q:Option Addr} {n c m d X Y:Nat} {w:World} (h1:Sl w p n c X) (h2:Sl w q m d Y) (hX:(pcN X).length≤100000) (hY:(pcN Y).length≤100000) (b:Bool) (hb:decide (X < Y)=b) :
   Calls Tryz.prog 221 #[.slice p n c,.slice q m d] w (Ret w (.bool b)):=by
 have:=less_any p q n c m d _ _ w h1.len h2.len (by rw [h1.len];omega) (by rw [h2.len];omega) (pcN_isP X).1 (pcN_isP Y).1 h1.has h2.has
 rwa [(pcN_isP X).2,(pcN_isP Y).2,show decide ((X:Int) < (Y:Int))=b by rw [← hb,decide_eq_decide];omega] at this
theorem joined_sl {p q:Option Addr} {n c m d X Y:Nat} {w:World} (h1:Sl w p n c X) (h2:Sl w q m d Y) (hX:(pcN X).length≤100000) (hY:(pcN Y).length≤100000) (k:Int) (hk0 : -10000≤k) (hk1:k≤10000) (V:Nat) (hV:(X:Int)+k*Y=V) :
   Calls Tryz.prog 202 #[.slice p n c,.slice q m d,.int .i64 k,.int .i64 0] w (RetP w (pcN V)):=by
 have:=joined_any p q n c m d X Y k w h1.len h2.len (by rw [h1.len];exact hX) (by rw [h2.len];exact hY) h1.cap h1.nil h1.has h2.has hk0 hk1 (by rw [hV];omega)
 rwa [hV,show ((V:Nat):Int).toNat=V by omega] at this
theorem made_sl {p:Option Addr} {n c X:Nat} {w:World} (E:Env w) (h1:Sl w p n c X) (hX:(pcN X).length≤100000) (hd:(Lib.decDigits X).length≤1000000) (b:Bool) (r:ByteArray) (hr:strOf (sgn b X)=r) :
   Calls Tryz.prog 203 #[.bool b,.slice p n c] w (Ret w (.string r)):=by
 have:=made_any b p n c X w E h1.len (by rw [h1.len];exact hX) h1.cap h1.top h1.nil h1.has hd
 rwa [hr] at this
structure AddIn (a b sx sy:ByteArray) (v1 v2:Int) (b1 b2 mx my:Bool) (X Y:Nat):Prop where
 br1:∀ w,Calls Tryz.prog 198 #[.string a] w (Ret w (.tuple #[.int .i64 v1,.bool b1]))
 br2:∀ w,Calls Tryz.prog 198 #[.string b] w (Ret w (.tuple #[.int .i64 v2,.bool b2]))
 sp1:∀ w,Calls Tryz.prog 159 #[.string a] w (Ret w (.tuple #[.bool mx,.string sx]))
 sp2:∀ w,Calls Tryz.prog 159 #[.string b] w (Ret w (.tuple #[.bool my,.string sy]))
 tk1:∀ w,Calls Tryz.prog 201 #[.string sx] w (RetP w (pcN X))
 tk2:∀ w,Calls Tryz.prog 201 #[.string sy] w (RetP w (pcN Y))
 lX:(pcN X).length≤100000
 lY:(pcN Y).length≤100000
 lS:∀ V,V≤X+Y→(pcN V).length≤100000∧(Lib.decDigits V).length≤1000000
theorem add_same {a b sx sy:ByteArray} {v1 v2:Int} {b1 b2 mx my:Bool} {X Y:Nat} (I:AddIn a b sx sy v1 v2 b1 b2 mx my X Y) (hmy:mx=my) (hn:(b1 && b2)=false) (r:ByteArray) (hr:strOf (sgn mx (X+Y))=r) (w:World) (E:Env w) :
   Calls Tryz.prog 196 #[.string a,.string b] w (Ret w (.string r)):=by
 subst hmy
 have hb:=Below.refl w.heap.size w
 have j:∀ p n c q m d w,Sl w p n c X→Sl w q m d Y→Calls Tryz.prog 202 #[.slice p n c,.slice q m d,.int .i64 1,.int .i64 0] w (RetP w (pcN (X+Y))):=
   fun p n c q m d w h1 h2=>joined_sl h1 h2 I.lX I.lY (1) (by decide) (by decide) (X+Y) (by omega)
 have J:=Lib.hid j
 have m0:∀ p n c w,Env w→Sl w p n c (X+Y)→Calls Tryz.prog 203 #[.bool (mx),.slice p n c] w (Ret w (.string r)):=
   fun p n c w E h=>made_sl E h (I.lS _ (Nat.le_refl _)).1 (I.lS _ (Nat.le_refl _)).2 (mx) r hr
 have M:=Lib.hid m0
 clear hr j m0
 go_enter Tryz.func196,Tryz.ntmps196
 cases b1 with
 | false =>
   clear hn
   cases mx <;> (go_wp2_with (first | (go_at_call 198;first | (with_reducible refine (chain hb (I.br1 _)).mono ?_;clear hb;rintro e w1 ⟨rfl,hb⟩) | (with_reducible refine (chain hb (I.br2 _)).mono ?_;clear hb;rintro e w1 ⟨rfl,hb⟩)) | (go_at_call 159;first | (with_reducible refine (chain hb (I.sp1 _)).mono ?_;clear hb;rintro e w1 ⟨rfl,hb⟩) | (with_reducible refine (chain hb (I.sp2 _)).mono ?_;clear hb;rintro e w1 ⟨rfl,hb⟩)) | (go_at_call 201;first | (with_reducible refine (chainR hb (I.tk1 _)).mono ?_;clear hb;rintro e w1 ⟨p,n,c,rfl,hp,-,hb⟩) | (with_reducible refine (chainR hb (I.tk2 _)).mono ?_;clear hb;rintro e w2 ⟨q,m,d,rfl,hq,hb1,hb⟩;replace hp:=hp.below hb1;clear hb1)) | (go_at_call 202;refine (chainR hb (J.out _ _ _ _ _ _ _ hp hq)).mono ?_;clear hb hp hq;rintro e w3 ⟨o,l,f,rfl,ho,-,hb⟩) | (go_at_call 221;refine (chain2 hb (L.out _ _ _ _ _ _ _ hp hq)).mono ?_;clear hb;rintro e w4 ⟨rfl,hb1,hb⟩;replace hp:=hp.below hb1;replace hq:=hq.below hb1;clear hb1) | (go_at_call 203;refine (chain hb (M.out _ _ _ _ (E.below hb) ho)).mono ?_;clear hb;rintro e w5 ⟨rfl,hb⟩));go_ret;exact ⟨rfl,hb⟩)
 | true =>
   cases b2 with
   | true=>exact absurd hn (by decide)
   | false =>
     clear hn
     cases mx <;> (go_wp2_with (first | (go_at_call 198;first | (with_reducible refine (chain hb (I.br1 _)).mono ?_;clear hb;rintro e w1 ⟨rfl,hb⟩) | (with_reducible refine (chain hb (I.br2 _)).mono ?_;clear hb;rintro e w1 ⟨rfl,hb⟩)) | (go_at_call 159;first | (with_reducible refine (chain hb (I.sp1 _)).mono ?_;clear hb;rintro e w1 ⟨rfl,hb⟩) | (with_reducible refine (chain hb (I.sp2 _)).mono ?_;clear hb;rintro e w1 ⟨rfl,hb⟩)) | (go_at_call 201;first | (with_reducible refine (chainR hb (I.tk1 _)).mono ?_;clear hb;rintro e w1 ⟨p,n,c,rfl,hp,-,hb⟩) | (with_reducible refine (chainR hb (I.tk2 _)).mono ?_;clear hb;rintro e w2 ⟨q,m,d,rfl,hq,hb1,hb⟩;replace hp:=hp.below hb1;clear hb1)) | (go_at_call 202;refine (chainR hb (J.out _ _ _ _ _ _ _ hp hq)).mono ?_;clear hb hp hq;rintro e w3 ⟨o,l,f,rfl,ho,-,hb⟩) | (go_at_call 221;refine (chain2 hb (L.out _ _ _ _ _ _ _ hp hq)).mono ?_;clear hb;rintro e w4 ⟨rfl,hb1,hb⟩;replace hp:=hp.below hb1;replace hq:=hq.below hb1;clear hb1) | (go_at_call 203;refine (chain hb (M.out _ _ _ _ (E.below hb) ho)).mono ?_;clear hb;rintro e w5 ⟨rfl,hb⟩));go_ret;exact ⟨rfl,hb⟩)
theorem add_less {a b sx sy:ByteArray} {v1 v2:Int} {b1 b2 mx my:Bool} {X Y:Nat} (I:AddIn a b sx sy v1 v2 b1 b2 mx my X Y) (hmy:my = !mx) (hn:(b1 && b2)=false) (hlt:X < Y) (r:ByteArray) (hr:strOf (sgn (!mx) (Y - X))=r) (w:World) (E:Env w) :
   Calls Tryz.prog 196 #[.string a,.string b] w (Ret w (.string r)):=by
 subst hmy
 have hb:=Below.refl w.heap.size w
 have j:∀ p n c q m d w,Sl w p n c X→Sl w q m d Y→Calls Tryz.prog 202 #[.slice q m d,.slice p n c,.int .i64 (-1),.int .i64 0] w (RetP w (pcN (Y - X))):=
   fun p n c q m d w h1 h2=>joined_sl h2 h1 I.lY I.lX ((-1)) (by decide) (by decide) (Y - X) (by omega)
 have J:=Lib.hid j
 have m0:∀ p n c w,Env w→Sl w p n c (Y - X)→Calls Tryz.prog 203 #[.bool (!mx),.slice p n c] w (Ret w (.string r)):=
   fun p n c w E h=>made_sl E h (I.lS _ (by omega)).1 (I.lS _ (by omega)).2 (!mx) r hr
 have M:=Lib.hid m0
 have l:∀ p n c q m d w,Sl w p n c X→Sl w q m d Y→Calls Tryz.prog 221 #[.slice p n c,.slice q m d] w (Ret w (.bool true)):=
   fun p n c q m d w h1 h2=>less_sl h1 h2 I.lX I.lY true (by first | exact decide_eq_true hlt | exact decide_eq_false hlt)
 have L:=Lib.hid l
 clear hr j m0 l hlt
 go_enter Tryz.func196,Tryz.ntmps196
 cases b1 with
 | false =>
   clear hn
   cases mx <;> (go_wp2_with (first | (go_at_call 198;first | (with_reducible refine (chain hb (I.br1 _)).mono ?_;clear hb;rintro e w1 ⟨rfl,hb⟩) | (with_reducible refine (chain hb (I.br2 _)).mono ?_;clear hb;rintro e w1 ⟨rfl,hb⟩)) | (go_at_call 159;first | (with_reducible refine (chain hb (I.sp1 _)).mono ?_;clear hb;rintro e w1 ⟨rfl,hb⟩) | (with_reducible refine (chain hb (I.sp2 _)).mono ?_;clear hb;rintro e w1 ⟨rfl,hb⟩)) | (go_at_call 201;first | (with_reducible refine (chainR hb (I.tk1 _)).mono ?_;clear hb;rintro e w1 ⟨p,n,c,rfl,hp,-,hb⟩) | (with_reducible refine (chainR hb (I.tk2 _)).mono ?_;clear hb;rintro e w2 ⟨q,m,d,rfl,hq,hb1,hb⟩;replace hp:=hp.below hb1;clear hb1)) | (go_at_call 202;refine (chainR hb (J.out _ _ _ _ _ _ _ hp hq)).mono ?_;clear hb hp hq;rintro e w3 ⟨o,l,f,rfl,ho,-,hb⟩) | (go_at_call 221;refine (chain2 hb (L.out _ _ _ _ _ _ _ hp hq)).mono ?_;clear hb;rintro e w4 ⟨rfl,hb1,hb⟩;replace hp:=hp.below hb1;replace hq:=hq.below hb1;clear hb1) | (go_at_call 203;refine (chain hb (M.out _ _ _ _ (E.below hb) ho)).mono ?_;clear hb;rintro e w5 ⟨rfl,hb⟩));go_ret;exact ⟨rfl,hb⟩)
 | true =>
   cases b2 with
   | true=>exact absurd hn (by decide)
   | false =>
     clear hn
     cases mx <;> (go_wp2_with (first | (go_at_call 198;first | (with_reducible refine (chain hb (I.br1 _)).mono ?_;clear hb;rintro e w1 ⟨rfl,hb⟩) | (with_reducible refine (chain hb (I.br2 _)).mono ?_;clear hb;rintro e w1 ⟨rfl,hb⟩)) | (go_at_call 159;first | (with_reducible refine (chain hb (I.sp1 _)).mono ?_;clear hb;rintro e w1 ⟨rfl,hb⟩) | (with_reducible refine (chain hb (I.sp2 _)).mono ?_;clear hb;rintro e w1 ⟨rfl,hb⟩)) | (go_at_call 201;first | (with_reducible refine (chainR hb (I.tk1 _)).mono ?_;clear hb;rintro e w1 ⟨p,n,c,rfl,hp,-,hb⟩) | (with_reducible refine (chainR hb (I.tk2 _)).mono ?_;clear hb;rintro e w2 ⟨q,m,d,rfl,hq,hb1,hb⟩;replace hp:=hp.below hb1;clear hb1)) | (go_at_call 202;refine (chainR hb (J.out _ _ _ _ _ _ _ hp hq)).mono ?_;clear hb hp hq;rintro e w3 ⟨o,l,f,rfl,ho,-,hb⟩) | (go_at_call 221;refine (chain2 hb (L.out _ _ _ _ _ _ _ hp hq)).mono ?_;clear hb;rintro e w4 ⟨rfl,hb1,hb⟩;replace hp:=hp.below hb1;replace hq:=hq.below hb1;clear hb1) | (go_at_call 203;refine (chain hb (M.out _ _ _ _ (E.below hb) ho)).mono ?_;clear hb;rintro e w5 ⟨rfl,hb⟩));go_ret;exact ⟨rfl,hb⟩)
theorem add_more {a b sx sy:ByteArray} {v1 v2:Int} {b1 b2 mx my:Bool} {X Y:Nat} (I:AddIn a b sx sy v1 v2 b1 b2 mx my X Y) (hmy:my = !mx) (hn:(b1 && b2)=false) (hlt:¬ X < Y) (r:ByteArray) (hr:strOf (sgn mx (X - Y))=r) (w:World) (E:Env w) :
   Calls Tryz.prog 196 #[.string a,.string b] w (Ret w (.string r)):=by
 subst hmy
 have hb:=Below.refl w.heap.size w
 have j:∀ p n c q m d w,Sl w p n c X→Sl w q m d Y→Calls Tryz.prog 202 #[.slice p n c,.slice q m d,.int .i64 (-1),.int .i64 0] w (RetP w (pcN (X - Y))):=
   fun p n c q m d w h1 h2=>joined_sl h1 h2 I.lX I.lY ((-1)) (by decide) (by decide) (X - Y) (by omega)
 have J:=Lib.hid j
 have m0:∀ p n c w,Env w→Sl w p n c (X - Y)→Calls Tryz.prog 203 #[.bool (mx),.slice p n c] w (Ret w (.string r)):=
   fun p n c w E h=>made_sl E h (I.lS _ (by omega)).1 (I.lS _ (by omega)).2 (mx) r hr
 have M:=Lib.hid m0
 have l:∀ p n c q m d w,Sl w p n c X→Sl w q m d Y→Calls Tryz.prog 221 #[.slice p n c,.slice q m d] w (Ret w (.bool false)):=
   fun p n c q m d w h1 h2=>less_sl h1 h2 I.lX I.lY false (by first | exact decide_eq_true hlt | exact decide_eq_false hlt)
 have L:=Lib.hid l
 clear hr j m0 l hlt
 go_enter Tryz.func196,Tryz.ntmps196
 cases b1 with
 | false =>
   clear hn
   cases mx <;> (go_wp2_with (first | (go_at_call 198;first | (with_reducible refine (chain hb (I.br1 _)).mono ?_;clear hb;rintro e w1 ⟨rfl,hb⟩) | (with_reducible refine (chain hb (I.br2 _)).mono ?_;clear hb;rintro e w1 ⟨rfl,hb⟩)) | (go_at_call 159;first | (with_reducible refine (chain hb (I.sp1 _)).mono ?_;clear hb;rintro e w1 ⟨rfl,hb⟩) | (with_reducible refine (chain hb (I.sp2 _)).mono ?_;clear hb;rintro e w1 ⟨rfl,hb⟩)) | (go_at_call 201;first | (with_reducible refine (chainR hb (I.tk1 _)).mono ?_;clear hb;rintro e w1 ⟨p,n,c,rfl,hp,-,hb⟩) | (with_reducible refine (chainR hb (I.tk2 _)).mono ?_;clear hb;rintro e w2 ⟨q,m,d,rfl,hq,hb1,hb⟩;replace hp:=hp.below hb1;clear hb1)) | (go_at_call 202;refine (chainR hb (J.out _ _ _ _ _ _ _ hp hq)).mono ?_;clear hb hp hq;rintro e w3 ⟨o,l,f,rfl,ho,-,hb⟩) | (go_at_call 221;refine (chain2 hb (L.out _ _ _ _ _ _ _ hp hq)).mono ?_;clear hb;rintro e w4 ⟨rfl,hb1,hb⟩;replace hp:=hp.below hb1;replace hq:=hq.below hb1;clear hb1) | (go_at_call 203;refine (chain hb (M.out _ _ _ _ (E.below hb) ho)).mono ?_;clear hb;rintro e w5 ⟨rfl,hb⟩));go_ret;exact ⟨rfl,hb⟩)
 | true =>
   cases b2 with
   | true=>exact absurd hn (by decide)
   | false =>
     clear hn
     cases mx <;> (go_wp2_with (first | (go_at_call 198;first | (with_reducible refine (chain hb (I.br1 _)).mono ?_;clear hb;rintro e w1 ⟨rfl,hb⟩) | (with_reducible refine (chain hb (I.br2 _)).mono ?_;clear hb;rintro e w1 ⟨rfl,hb⟩)) | (go_at_call 159;first | (with_reducible refine (chain hb (I.sp1 _)).mono ?_;clear hb;rintro e w1 ⟨rfl,hb⟩) | (with_reducible refine (chain hb (I.sp2 _)).mono ?_;clear hb;rintro e w1 ⟨rfl,hb⟩)) | (go_at_call 201;first | (with_reducible refine (chainR hb (I.tk1 _)).mono ?_;clear hb;rintro e w1 ⟨p,n,c,rfl,hp,-,hb⟩) | (with_reducible refine (chainR hb (I.tk2 _)).mono ?_;clear hb;rintro e w2 ⟨q,m,d,rfl,hq,hb1,hb⟩;replace hp:=hp.below hb1;clear hb1)) | (go_at_call 202;refine (chainR hb (J.out _ _ _ _ _ _ _ hp hq)).mono ?_;clear hb hp hq;rintro e w3 ⟨o,l,f,rfl,ho,-,hb⟩) | (go_at_call 221;refine (chain2 hb (L.out _ _ _ _ _ _ _ hp hq)).mono ?_;clear hb;rintro e w4 ⟨rfl,hb1,hb⟩;replace hp:=hp.below hb1;replace hq:=hq.below hb1;clear hb1) | (go_at_call 203;refine (chain hb (M.out _ _ _ _ (E.below hb) ho)).mono ?_;clear hb;rintro e w5 ⟨rfl,hb⟩));go_ret;exact ⟨rfl,hb⟩)
theorem magB_dlen (x:Int):(magB (itoaB x)).size=dlen x:=by rw [magB_itoa,strOf_size];rfl
theorem magB_dig (x:Int):(magB (itoaB x)).data.toList.all isDig=true:=by rw [magB_itoa];exact List.all_eq_true.2 (fun c hc=>List.all_eq_true.1 (decDigits_dig x.natAbs) c hc)
theorem magB_val (x:Int):val (magB (itoaB x)).data.toList=x.natAbs:=by rw [magB_itoa];exact val_decDigits _
theorem brief_any (x:Int) (h:dlen x≤100000):∃ v b,(b=true→dlen x≤17)∧∀ w,Calls Tryz.prog 198 #[.string (itoaB x)] w (Ret w (.tuple #[.int .i64 v,.bool b])):=by
 by_cases hs:dlen x≤17
 · exact ⟨x,true,fun _=>hs,fun w=>brief_short x w hs⟩
 · exact ⟨0,false,fun h=>by simp at h,fun w=>brief_long x w (by omega) h⟩
theorem take_itoa (x:Int) (w:World) (h:dlen x≤100000):Calls Tryz.prog 201 #[.string (magB (itoaB x))] w (RetP w (pcN x.natAbs)):=by
 have:=take_any (magB (itoaB x)) w (by rw [magB_dlen];exact h) (magB_dig x)
 rwa [magB_val] at this
theorem add_brief (x y:Int) (w:World) (E:Env w) (hx:dlen x≤17) (hy:dlen y≤17) :
   Calls Tryz.prog 196 #[.string (itoaB x),.string (itoaB y)] w (Ret w (.string (itoaB (x+y)))):=by
 have e1:x.natAbs < 100000000000000000:=Nat.lt_of_lt_of_le (dig_lt _) (Nat.pow_le_pow_right (by decide) hx)
 have e2:y.natAbs < 100000000000000000:=Nat.lt_of_lt_of_le (dig_lt _) (Nat.pow_le_pow_right (by decide) hy)
 have b1:∀ w,Calls Tryz.prog 198 #[.string (itoaB x)] w (Ret w (.tuple #[.int .i64 x,.bool true])):=fun w=>brief_short x w hx
 have b2:∀ w,Calls Tryz.prog 198 #[.string (itoaB y)] w (Ret w (.tuple #[.int .i64 y,.bool true])):=fun w=>brief_short y w hy
 have ew:IntKind.i64.wrap (x+y)=x+y:=IntWalk.i64_in _ (by omega)
 have B1:=Lib.hid b1
 have B2:=Lib.hid b2
 have o1:CE 199 #[.int .i64 (x+y)] (.string (itoaB (x+y))):=fun w E=>refOf_any (x+y) (by omega) (by omega) w E
 have O:=Lib.hid o1
 obtain ⟨a,ha⟩:∃ a,itoaB x=a:=⟨_,rfl⟩
 obtain ⟨b,hb0⟩:∃ b,itoaB y=b:=⟨_,rfl⟩
 rw [ha] at B1 ⊢
 rw [hb0] at B2 ⊢
 clear ha hb0 b1 b2 o1 e1 e2
 have hb:=Below.refl w.heap.size w
 go_enter Tryz.func196,Tryz.ntmps196
 go_wp2_with (first
   | (go_at_call 198;first
     | (with_reducible refine (chain hb (B1.out _)).mono ?_;clear hb;rintro e w1 ⟨rfl,hb⟩)
     | (with_reducible refine (chain hb (B2.out _)).mono ?_;clear hb;rintro e w1 ⟨rfl,hb⟩))
   | (go_at_call 199;(try rw [ew]);refine (chain hb (O.out _ (E.below hb))).mono ?_;clear hb;rintro e w1 ⟨rfl,hb⟩))
 go_ret
 exact ⟨rfl,hb⟩
theorem refAdd_any (x y:Int) (w:World) (E:Env w) (hx:dlen x≤99999) (hy:dlen y≤99999) :
   Calls Tryz.prog 196 #[.string (itoaB x),.string (itoaB y)] w (Ret w (.string (itoaB (x+y)))):=by
 by_cases hs:dlen x≤17∧dlen y≤17
 · exact add_brief x y w E hs.1 hs.2
 obtain ⟨v1,b1,hb1,B1⟩:=brief_any x (by omega)
 obtain ⟨v2,b2,hb2,B2⟩:=brief_any y (by omega)
 have hn:(b1 && b2)=false:=by
   rcases Bool.eq_false_or_eq_true (b1 && b2) with h | h
   · rw [Bool.and_eq_true] at h;exact absurd ⟨hb1 h.1,hb2 h.2⟩ hs
   · exact h
 have S:∀ V,V≤x.natAbs+y.natAbs→(pcN V).length≤100000∧(Lib.decDigits V).length≤1000000:=fun V hV=>by
   have h:=dec_add_len 99999 x.natAbs y.natAbs V (by omega) hx hy hV
   exact ⟨pcN_len_dec V 100000 h,by omega⟩
 have I:AddIn (itoaB x) (itoaB y) (magB (itoaB x)) (magB (itoaB y)) v1 v2 b1 b2 (decide (x < 0)) (decide (y < 0)) x.natAbs y.natAbs:=
   ⟨B1,B2,fun w=>split_any _ w _ (neg_itoaB x),fun w=>split_any _ w _ (neg_itoaB y),fun w=>take_itoa x w (by omega),fun w=>take_itoa y w (by omega),
     (S _ (by omega)).1,(S _ (by omega)).1,S⟩
 by_cases hxy:decide (x < 0)=decide (y < 0)
 · refine add_same I hxy hn _ ?_ w E
   rw [sgn_of (x+y) _ (x.natAbs+y.natAbs) ?_ ?_]
   · rfl
   · rw [decide_eq_decide] at hxy;omega
   · intro h0;rw [decide_eq_decide] at hxy ⊢;omega
 · have hne:decide (y < 0) = !decide (x < 0):=by cases hp:decide (x < 0) <;> cases hq:decide (y < 0) <;> simp_all
   have hsg:(x < 0∧¬ y < 0)∨(¬ x < 0∧y < 0):=by
     rw [decide_eq_decide] at hxy;omega
   by_cases hlt:x.natAbs < y.natAbs
   · refine add_less I hne hn hlt _ ?_ w E
     rw [sgn_of (x+y) _ (y.natAbs - x.natAbs) ?_ ?_]
     · rfl
     · omega
     · intro h0;rw [← hne,decide_eq_decide];omega
   · refine add_more I hne hn hlt _ ?_ w E
     rw [sgn_of (x+y) _ (x.natAbs - y.natAbs) ?_ ?_]
     · rfl
     · omega
     · intro h0;rw [decide_eq_decide];omega
theorem refSign_any (x:Int) (w:World):Calls Tryz.prog 162 #[.string (itoaB x)] w (Ret w (.int .i64 x.sign)):=by
 have s1:∀ w,Calls Tryz.prog 159 #[.string (itoaB x)] w (Ret w (.tuple #[.bool (decide (x < 0)),.string (magB (itoaB x))])):=fun w=>split_any _ w _ (neg_itoaB x)
 have hz:((itoaB x).toList == [48])=decide (x=0):=by
   rw [Bool.eq_iff_iff,beq_iff_eq,decide_eq_true_iff,← itoa_eq_zero,Lib.toList_data]
   exact ⟨fun h=>dat_inj h,fun h=>by rw [h]⟩
 obtain ⟨m,hm⟩:∃ m,magB (itoaB x)=m:=⟨_,rfl⟩
 obtain ⟨a,ha⟩:∃ a,itoaB x=a:=⟨_,rfl⟩
 rw [hm,ha] at s1
 rw [ha] at hz ⊢
 have S1:=Lib.hid s1
 clear s1 hm ha
 have hb:=Below.refl w.heap.size w
 go_enter Tryz.func162,Tryz.ntmps162
 rcases Int.lt_trichotomy x 0 with h | h | h
 · have e:x.sign = -1:=Int.sign_eq_neg_one_of_neg h
   rw [e]
   rw [decide_eq_true h] at S1
   clear e h hz
   go_wp2_with (go_at_call 159;refine (chain hb (S1.out _)).mono ?_;clear hb;rintro e w1 ⟨rfl,hb⟩)
   go_ret
   exact ⟨rfl,hb⟩
 · subst h
   rw [decide_eq_false (by decide)] at S1
   rw [decide_eq_true rfl] at hz
   go_wp2_with (go_at_call 159;refine (chain hb (S1.out _)).mono ?_;clear hb;rintro e w1 ⟨rfl,hb⟩)
   go_ret
   exact ⟨rfl,hb⟩
 · have e:x.sign=1:=Int.sign_eq_one_of_pos h
   rw [e]
   rw [decide_eq_false (by omega)] at S1
   rw [decide_eq_false (by omega)] at hz
   clear e h
   go_wp2_with (go_at_call 159;refine (chain hb (S1.out _)).mono ?_;clear hb;rintro e w1 ⟨rfl,hb⟩)
   go_ret
   exact ⟨rfl,hb⟩
theorem refNeg_any (x:Int) (w:World) (hl:dlen x≤100000):Calls Tryz.prog 197 #[.string (itoaB x)] w (Ret w (.string (itoaB (-x)))):=by
 have s1:∀ w,Calls Tryz.prog 159 #[.string (itoaB x)] w (Ret w (.tuple #[.bool (decide (x < 0)),.string (magB (itoaB x))])):=fun w=>split_any _ w _ (neg_itoaB x)
 have hz:((itoaB x).toList == [48])=decide (x=0):=by
   rw [Bool.eq_iff_iff,beq_iff_eq,decide_eq_true_iff,← itoa_eq_zero,Lib.toList_data]
   exact ⟨fun h=>dat_inj h,fun h=>by rw [h]⟩
 have hms:(magB (itoaB x)).size≤100000:=by rw [magB_dlen];exact hl
 have hr0:x≤0→magB (itoaB x)=itoaB (-x):=fun h=>by
   rw [magB_itoa];unfold itoaB
   rw [itoa_nat (-x) (by omega),show (-x).toNat=x.natAbs by omega]
 have hr1:0 < x→(⟨#[45]⟩:ByteArray) ++ magB (itoaB x)=itoaB (-x):=fun h=>by
   rw [magB_itoa,cat_minus];unfold itoaB
   rw [← sgn_of (-x) true x.natAbs (by omega) (fun _=>by rw [decide_eq_true (by omega)])]
   unfold sgn;rw [decide_eq_true (by omega:0 < x.natAbs)];rfl
 obtain ⟨r,hr⟩:∃ r,itoaB (-x)=r:=⟨_,rfl⟩
 obtain ⟨m,hm⟩:∃ m,magB (itoaB x)=m:=⟨_,rfl⟩
 obtain ⟨a,ha⟩:∃ a,itoaB x=a:=⟨_,rfl⟩
 rw [hm,hr] at hr0 hr1
 rw [hm] at hms
 rw [hm,ha] at s1
 rw [ha] at hz
 rw [ha,hr]
 have S1:=Lib.hid s1
 clear s1 hm ha hr hl
 have hb:=Below.refl w.heap.size w
 rcases Int.lt_trichotomy x 0 with h | h | h
 · have R:=Lib.hid (hr0 (by omega))
   rw [decide_eq_true h] at S1
   rw [decide_eq_false (by omega)] at hz
   clear h hr0 hr1
   go_enter Tryz.func197,Tryz.ntmps197
   go_wp2_with (go_at_call 159;refine (chain hb (S1.out _)).mono ?_;clear hb;rintro e w1 ⟨rfl,hb⟩)
   go_ret
   exact ⟨retS R.out,hb⟩
 · have R:=Lib.hid (hr0 (by omega))
   rw [decide_eq_false (by omega)] at S1
   rw [decide_eq_true h] at hz
   clear h hr0 hr1
   go_enter Tryz.func197,Tryz.ntmps197
   go_wp2_with (go_at_call 159;refine (chain hb (S1.out _)).mono ?_;clear hb;rintro e w1 ⟨rfl,hb⟩)
   go_ret
   exact ⟨retS R.out,hb⟩
 · have R:=Lib.hid (hr1 h)
   rw [decide_eq_false (by omega)] at S1
   rw [decide_eq_false (by omega)] at hz
   clear h hr0 hr1
   go_enter Tryz.func197,Tryz.ntmps197
   go_wp2_with (go_at_call 159;refine (chain hb (S1.out _)).mono ?_;clear hb;rintro e w1 ⟨rfl,hb⟩)
   go_ret
   exact ⟨retS R.out,hb⟩
theorem refSub_any (x y:Int) (w:World) (E:Env w) (hx:dlen x≤99999) (hy:dlen y≤99999) :
   Calls Tryz.prog 163 #[.string (itoaB x),.string (itoaB y)] w (Ret w (.string (itoaB (x - y)))):=by
 have n1:∀ w,Calls Tryz.prog 197 #[.string (itoaB y)] w (Ret w (.string (itoaB (-y)))):=fun w=>refNeg_any y w (by omega)
 have a1:CE 196 #[.string (itoaB x),.string (itoaB (-y))] (.string (itoaB (x - y))):=fun w E=>by
   have:=refAdd_any x (-y) w E hx (by rw [dlen_neg];exact hy)
   rwa [← Int.sub_eq_add_neg] at this
 obtain ⟨r,hr⟩:∃ r,itoaB (x - y)=r:=⟨_,rfl⟩
 obtain ⟨c,hc⟩:∃ c,itoaB (-y)=c:=⟨_,rfl⟩
 obtain ⟨a,ha⟩:∃ a,itoaB x=a:=⟨_,rfl⟩
 obtain ⟨b,hb0⟩:∃ b,itoaB y=b:=⟨_,rfl⟩
 rw [hb0,hc] at n1
 rw [ha,hc,hr] at a1
 rw [ha,hb0,hr]
 have N1:=Lib.hid n1
 have A1:=Lib.hid a1
 clear n1 a1 hr hc ha hb0 hx hy
 have hb:=Below.refl w.heap.size w
 go_enter Tryz.func163,Tryz.ntmps163
 go_wp2_with (first
   | (go_at_call 197;refine (chain hb (N1.out _)).mono ?_;clear hb;rintro e w1 ⟨rfl,hb⟩)
   | (go_at_call 196;refine (chain hb (A1.out _ (E.below hb))).mono ?_;clear hb;rintro e w1 ⟨rfl,hb⟩))
 go_ret
 exact ⟨rfl,hb⟩
theorem refCompare_any (x y:Int) (w:World) (E:Env w) (hx:dlen x≤99999) (hy:dlen y≤99999) :
   Calls Tryz.prog 132 #[.string (itoaB x),.string (itoaB y)] w (Ret w (.int .i64 (x - y).sign)):=by
 have n1:CE 163 #[.string (itoaB x),.string (itoaB y)] (.string (itoaB (x - y))):=fun w E=>refSub_any x y w E hx hy
 have a1:∀ w,Calls Tryz.prog 162 #[.string (itoaB (x - y))] w (Ret w (.int .i64 (x - y).sign)):=fun w=>refSign_any (x - y) w
 obtain ⟨z,hz⟩:∃ z,(x - y).sign=z:=⟨_,rfl⟩
 obtain ⟨r,hr⟩:∃ r,itoaB (x - y)=r:=⟨_,rfl⟩
 obtain ⟨a,ha⟩:∃ a,itoaB x=a:=⟨_,rfl⟩
 obtain ⟨b,hb0⟩:∃ b,itoaB y=b:=⟨_,rfl⟩
 rw [ha,hb0,hr] at n1
 rw [hr,hz] at a1
 rw [ha,hb0,hz]
 have N1:=Lib.hid n1
 have A1:=Lib.hid a1
 clear n1 a1 hr hz ha hb0 hx hy
 have hb:=Below.refl w.heap.size w
 go_enter Tryz.func132,Tryz.ntmps132
 go_wp2_with (first
   | (go_at_call 163;refine (chain hb (N1.out _ (E.below hb))).mono ?_;clear hb;rintro e w1 ⟨rfl,hb⟩)
   | (go_at_call 162;refine (chain hb (A1.out _)).mono ?_;clear hb;rintro e w1 ⟨rfl,hb⟩))
 go_ret
 exact ⟨rfl,hb⟩
end Go.Proofs.YtejfiegmdllfbaaGreatDoor.Kl
namespace Go.Proofs.YtejfiegmdllfbaaGreatDoor.Kl
open Go Go.RowKit
set_option maxRecDepth 100000
set_option maxHeartbeats 8000000
set_option maxRecDepth 512 in
theorem refAbs_any (x:Int) (w:World) :
   Calls Tryz.prog 164 #[.string (itoaB x)] w (Ret w (.string (itoaB x.natAbs))):=by
 have s1:∀ w,Calls Tryz.prog 159 #[.string (itoaB x)] w (Ret w (.tuple #[.bool (decide (x < 0)),.string (magB (itoaB x))])):=fun w=>split_any _ w _ (neg_itoaB x)
 have e:magB (itoaB x)=itoaB x.natAbs:=by
   rw [magB_itoa];unfold itoaB;rw [itoa_nat _ (by omega)];rfl
 rw [e] at s1
 obtain ⟨c,hc⟩:∃ c,decide (x < 0)=c:=⟨_,rfl⟩
 obtain ⟨r,hr⟩:∃ r,itoaB x.natAbs=r:=⟨_,rfl⟩
 obtain ⟨a,ha⟩:∃ a,itoaB x=a:=⟨_,rfl⟩
 rw [hc,hr,ha] at s1
 rw [hr,ha]
 have S1:=Lib.hid s1
 clear s1 e hc hr ha
 have hb:=Below.refl w.heap.size w
 go_enter Tryz.func164,Tryz.ntmps164
 go_wp2_with (go_at_call 159;refine (chain hb (S1.out _)).mono ?_;clear hb;rintro e w1 ⟨rfl,hb⟩)
 go_ret
 exact ⟨rfl,hb⟩
end Go.Proofs.YtejfiegmdllfbaaGreatDoor.Kl
