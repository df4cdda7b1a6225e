import Derived.Test.YtpiiclmkbplkhaaGreatDoorKlBGiveZ
namespace Go.Proofs.YtpiiclmkbplkhaaGreatDoor.Kl
open Go Go.RowKit
set_option maxRecDepth 100000
set_option maxHeartbeats 8000000
theorem trim_some (b o n c:Nat) (xs:List Int) (w:World) (hn:n=xs.length) (hnc:n≤c) (hc:c≤9223372036854775807) (hb:b < w.heap.size)
   (hcell:∀ i,i < xs.length→w.cell? ⟨b,o+i,none⟩=some (.int .i64 (xs[i]?.getD 0))) :
   Calls Tryz.prog 136 #[.slice (some ⟨b,o,none⟩) n c] w (RetP w (trimP xs)):=by
 have HN:=Lib.hid hn
 have HC:=Lib.hid hcell
 clear hn hcell
 go_enter Tryz.func136,Tryz.ntmps136
 go_wp2
 go_loop [3] (fun v=>∃ k:Nat,k≤n∧v = .int .i64 k∧trimP (xs.take k)=trimP xs) (fun v=>(intOf v).toNat)
 case atStart=>exact ⟨n,Nat.le_refl _,rfl,by rw [HN.out,List.take_length]⟩
 case round =>
   obtain ⟨k,hk,rfl,ht⟩:=hrel
   have HT:=Lib.hid ht
   clear ht
   by_cases h0:k=0
   · subst h0
     go_wp2
     go_ret
     have e:trimP xs=[]:=by rw [← HT.out];rfl
     exact ⟨_,_,_,rfl,by rw [e];rfl,Nat.zero_le _,hc,(fun h=>by cases h),by rw [e];exact Or.inl rfl,Below.refl _ _⟩
   · obtain ⟨j,rfl⟩:∃ j,k=j+1:=⟨k - 1,by omega⟩
     have hjn:j < xs.length:=by have:=HN.out;omega
     have hcj:=HC.out j hjn
     have htl:=take_last (xs:=xs) (k:=j) hjn
     obtain ⟨z,hz⟩:∃ z,xs[j]?.getD 0=z:=⟨_,rfl⟩
     rw [hz] at hcj htl
     have HTL:=Lib.hid htl
     clear hz htl
     by_cases hz0:z=0
     · subst hz0
       go_wp2
       go_round
       case rel=>exact ⟨j,by omega,by go_num,by rw [← HT.out,HTL.out,trimP_snoc_zero]⟩
       case measure=>simp [intOf]
     · have hzb:(z == 0)=false:=by simpa using hz0
       go_wp2
       go_ret
       have e:trimP xs=xs.take (j+1):=by rw [← HT.out,HTL.out,trimP_snoc _ hz0]
       exact ⟨_,_,_,rfl,by rw [e,List.length_take];omega,by omega,hc,(fun h=>by cases h),by rw [e];exact Has.take (Or.inr ⟨b,o,rfl,hb,HC.out⟩) _,Below.refl _ _⟩
theorem trim_none (p:Option Addr) (c:Nat) (hc:c≤9223372036854775807) (hpn:p=none→c=0) (w:World) :
   Calls Tryz.prog 136 #[.slice p 0 c] w (RetP w []):=by
 have HPN:=Lib.hid hpn
 clear hpn
 go_enter Tryz.func136,Tryz.ntmps136
 go_wp2
 refine wp_loop_rounds 1 ?_
 rw [rounds_succ]
 go_wp2
 go_ret
 exact ⟨_,_,_,rfl,rfl,Nat.zero_le _,hc,HPN.out,Or.inl rfl,Below.refl _ _⟩
theorem trim_any (p:Option Addr) (n c:Nat) (xs:List Int) (w:World) (hn:n=xs.length) (hnc:n≤c) (hc:c≤9223372036854775807) (hpn:p=none→c=0) (h:Has w p xs) :
   Calls Tryz.prog 136 #[.slice p n c] w (RetP w (trimP xs)):=by
 rcases h with rfl | ⟨b,o,rfl,hlt,hcell⟩
 · obtain rfl:n=0:=hn
   exact trim_none p c hc hpn w
 · exact trim_some b o n c xs w hn hnc hc hlt hcell
theorem at_any (p:Option Addr) (n c:Nat) (xs:List Int) (k:Nat) (w:World) (hn:n=xs.length) (_hm:n≤1000000) (_hk:k≤1000000) (h:Has w p xs) :
   Calls Tryz.prog 161 #[.slice p n c,.int .i64 k] w fun e w' => e = .returned (.int .i64 (xs[k]?.getD 0))∧w=w':=by
 by_cases hlt:k < n
 · rcases h with rfl | ⟨b,o,rfl,hb,hcell⟩
   · exfalso;rw [hn] at hlt;exact absurd hlt (Nat.not_lt_zero _)
   · have hc:=hcell k (by omega)
     obtain ⟨z,hz⟩:∃ z,xs[k]?.getD 0=z:=⟨_,rfl⟩
     rw [hz] at hc
     rw [hz]
     clear hz hcell hn
     have hlt':(k:Int) < (n:Int):=by omega
     go_enter Tryz.func161,Tryz.ntmps161
     go_wp2
     go_ret
     exact ⟨rfl,rfl⟩
 · have e:xs[k]?.getD 0=0:=by rw [List.getElem?_eq_none (by omega)];rfl
   rw [e]
   clear h e hn
   have hlt':¬ (k:Int) < (n:Int):=by omega
   go_enter Tryz.func161,Tryz.ntmps161
   go_wp2
   go_ret
   exact ⟨rfl,rfl⟩
theorem tdiv9_facts (s:Int) (h0 : -9000000000000000000≤s) (h1:s≤9000000000000000000) :
   -9000000000≤s.tdiv 1000000000∧s.tdiv 1000000000≤9000000000 ∧ -1000000000 < s.tmod 1000000000∧s.tmod 1000000000 < 1000000000:=by
 have h1:=Int.natAbs_tmod s 1000000000
 have h2:(s.tdiv 1000000000).natAbs=s.natAbs / (1000000000:Int).natAbs:=Int.natAbs_tdiv s 1000000000
 have e:(1000000000:Int).natAbs=1000000000:=rfl
 rw [e] at h1 h2
 omega
set_option maxRecDepth 512 in
theorem cut9_any (s:Int) (w:World) (h0 : -9000000000000000000≤s) (h1:s≤9000000000000000000) :
   Calls Tryz.prog 149 #[.int .i64 s] w fun e w' => e = .returned (.tuple #[.int .i64 (s / 1000000000),.int .i64 (s % 1000000000)])∧w=w':=by
 obtain ⟨q0,q1,r0,r1⟩:=tdiv9_facts s h0 h1
 have q2:wrap64 (s.tdiv 1000000000)=s.tdiv 1000000000:=IntWalk.wrap64_in _ ⟨by omega,by omega⟩
 have hy:(1000000000:Int)≠0:=by decide
 by_cases hr:s.tmod 1000000000 < 0
 · have e:=euclid_minus (x:=s) (y:=1000000000) (by decide) hr (by omega)
   have E1:=Lib.hid e.1
   have E2:=Lib.hid e.2
   clear e
   go_enter Tryz.func149,Tryz.ntmps149
   go_wp2
   go_ret2
   exact ⟨retII E1.out E2.out,rfl⟩
 · have e:=euclid_zero (x:=s) (y:=1000000000) hy (by omega) (fun _=>by omega) (fun h=>by omega)
   have E1:=Lib.hid e.1
   have E2:=Lib.hid e.2
   clear e
   go_enter Tryz.func149,Tryz.ntmps149
   go_wp2
   go_ret2
   exact ⟨retII E1.out E2.out,rfl⟩
structure Take9 (l:List UInt8) (j:Nat) (z:Int) (out:List Int):Prop where
 len:out.length=j
 inr:Inr 1000000000 out
 eq:z=(l.length:Int) - 9*j
 lo : -9 < z
 sum:pval 1000000000 out+1000000000 ^ j*(val (l.take z.toNat):Int)=(val l:Int)
theorem take9_step {l:List UInt8} (hd:l.all isDig=true) {j:Nat} {z:Int} {out:List Int} (h:Take9 l j z out) (hz:0 < z) (e:Nat) (he:z=e) :
   Take9 l (j+1) (z - 9) (out ++ [(val (win l (e - 9) e):Int)])∧val (win l (e - 9) e) < 1000000000:=by
 have hel:e≤l.length:=by have:=h.eq;omega
 have hw:val (win l (e - 9) e) < 1000000000:=by
   have h1:=val_lt _ (win_dig hd (e - 9) e)
   rw [win_len l (e - 9) e hel] at h1
   have h2:10 ^ (e - (e - 9))≤10 ^ 9:=Nat.pow_le_pow_right (by decide) (by omega)
   exact Nat.lt_of_lt_of_le h1 h2
 refine ⟨⟨by rw [List.length_append,h.len];rfl,fun x hx=>?_,by rw [h.eq];omega,by omega,?_⟩,hw⟩
 · rcases List.mem_append.1 hx with hx | hx
   · exact h.inr x hx
   · obtain rfl:x=(val (win l (e - 9) e):Int):=by simpa using hx
     omega
 · have hs:=h.sum
   have e1:z.toNat=e:=by omega
   have e2:(z - 9).toNat=e - 9:=by omega
   rw [e1,val_split l (e - 9) e (by omega) hel] at hs
   rw [pval_append,h.len,e2,← hs,Int.pow_succ]
   show pval 1000000000 out+1000000000 ^ j*((val (win l (e - 9) e):Int)+1000000000*0)+1000000000 ^ j*1000000000*(val (l.take (e - 9)):Int)=_
   have hv:(val (l.take (e - 9))*10 ^ (e - (e - 9)):Nat)=val (l.take (e - 9))*1000000000:=by
     by_cases h4:9≤e
     · rw [show e - (e - 9)=9 by omega]
     · rw [show e - 9=0 by omega];simp [val,valFrom]
   rw [hv]
   generalize val (l.take (e - 9))=A
   generalize val (win l (e - 9) e)=C
   rw [Int.add_assoc,Int.mul_assoc,← Int.mul_add]
   congr 2
   omega
theorem made_iv (n:Nat):(madeCells #[Value.int .i64 0] n).toList=iv (List.replicate n 0):=by
 unfold madeCells iv
 apply List.ext_getElem
 · simp
 · intro i h1 h2
   simp [Nat.mod_one]
theorem made_parts : ∃ i,Tryz.prog.info? 3=some i∧i.zero=some (.int .i64 0)∧i.size=1∧i.bytes=8:=info_parts info3
theorem make_ints (T:TypeId) (hT : Tryz.prog.underlying T=some (.slice 3)) (l c:Nat) (hlc:l≤c) (hc:c≤1000000) (w:World) :
   (Instr.makeSlice T (.int .i64 l) (.int .i64 c)).run Tryz.prog w = .ok (.slice (some ⟨w.heap.size,0,none⟩) l c) (w.alloc (.cells (madeCells #[Value.int .i64 0] c) 3)):=by
 obtain ⟨i,hi,hz,hs,hb⟩:=made_parts
 have:=run_make w T 3 i (.int .i64 0) hT hi hz .i64 .i64 (l:Int) (c:Int) (by omega) (by omega) (by rw [hb];omega) (by omega)
 rw [hs,Nat.mul_one] at this
 simpa [Value.cells] using this
theorem own_below {w w':World} {B:Nat} {e:TypeId} {size:Nat} {v:Value} {n:Nat} {xs:List Value} (h:w.ownsRow B e size v n xs) (hb:Below w.heap.size w w'):w'.ownsRow B e size v n xs:=by
 obtain ⟨h1,h2⟩:=h
 refine ⟨h1,?_⟩
 rcases h2 with h2 | ⟨g,cap,cur,hv,hg,hh,hr⟩
 · exact .inl h2
 · have hlt:g < w.heap.size:=by
     by_cases hn:g < w.heap.size
     · exact hn
     · rw [Array.getElem?_eq_none (by omega)] at hh;cases hh
   exact .inr ⟨g,cap,cur,hv,hg,(hb.block g hlt).trans hh,hr⟩
theorem set_next (out:List Int) (d:Nat) (r:Int):(out ++ List.replicate (d+1) 0).set out.length r=(out ++ [r]) ++ List.replicate d 0:=by
 rw [List.set_append_right _ _ (Nat.le_refl _),Nat.sub_self,List.replicate_succ];simp
theorem iv_set (xs:List Int) (i:Nat) (r:Int):(iv xs).set i (.int .i64 r)=iv (xs.set i r):=by rw [iv,iv,List.map_set]
theorem own_zeros (w:World) (n:Nat) (hn:n≤1000000):(w.alloc (.cells (madeCells #[Value.int .i64 0] n) 3)).ownsRow w.heap.size 3 1 (.slice (some ⟨w.heap.size,0,none⟩) n n) n (iv (List.replicate n 0)):=by
 have h:=World.ownsRow_lit (base:=w.heap.size) (e:=3) (size:=1) w (madeCells #[Value.int .i64 0] n) n (Nat.le_refl _) (by unfold maxLen;omega) (by rw [size_madeCells];omega)
 rwa [made_iv] at h
def colC (a b:Int) (xs ys:List Int) (k:Nat):Int:=a*xs[k]?.getD 0+b*ys[k]?.getD 0
structure CombAt (a b:Int) (xs ys:List Int) (L k:Nat) (o:Int) (out:List Int) (W0 wr:World) (B:Nat):Prop where
 le:k≤L
 col:ColAt 1000000000 (colC a b xs ys) k o out
 lo : -4000000000≤o
 hi:o≤4000000000
 own:wr.ownsRow B 3 1 (.slice (some ⟨B,0,none⟩) L L) L (iv (out ++ List.replicate (L - k) 0))
 bel:Below B W0 wr
theorem combine_any (p q:Option Addr) (n c m d:Nat) (xs ys:List Int) (a b:Int) (w:World) (hn:n=xs.length) (hm:m=ys.length) (hnl:n≤100000) (hml:m≤100000) (hp:Has w p xs) (hq:Has w q ys)
   (ha0 : -1000000000≤a) (ha1:a≤1000000000) (hb0 : -1000000000≤b) (hb1:b≤1000000000)
   (hxs:∀ j:Nat,0≤xs[j]?.getD 0∧xs[j]?.getD 0 < 1000000000) (hys:∀ j:Nat,0≤ys[j]?.getD 0∧ys[j]?.getD 0 < 1000000000)
   (V:Nat) (hV:a*pval 1000000000 xs+b*pval 1000000000 ys=V) (hVL:V < 1000000000 ^ (max n m+1)) :
   Calls Tryz.prog 134 #[.slice p n c,.int .i64 a,.slice q m d,.int .i64 b] w (RetP w (pcM V)):=by
 have hbx:∀ (z:Int) (x:Int),-1000000000≤z→z≤1000000000→0≤x→x < 1000000000 → -1000000000000000000≤z*x∧z*x≤1000000000000000000:=fun z x h1 h2 h3 h4=>by
   have g1:=Int.mul_le_mul_of_nonneg_right h1 h3
   have g2:=Int.mul_le_mul_of_nonneg_right h2 h3
   omega
 have hL:∃ L:Nat,max n m+1=L:=⟨_,rfl⟩
 obtain ⟨L,hL⟩:=hL
 have hLi:max (n:Int) (m:Int)+1=(L:Int):=by omega
 have hmk:(Instr.makeSlice 135 (.int .i64 (L:Int)) (.int .i64 (L:Int))).run Tryz.prog w = .ok (.slice (some ⟨w.heap.size,0,none⟩) L L) (w.alloc (.cells (madeCells #[Value.int .i64 0] L) 3)):=
   make_ints _ Tryz.underlying135 L L (Nat.le_refl _) (by omega) w
 have hz:=own_zeros w L (by omega)
 have hbel:=(Below.refl w.heap.size w).alloc (Nat.le_refl _) (.cells (madeCells #[Value.int .i64 0] L) 3)
 have HN:=Lib.hid hn
 have HM:=Lib.hid hm
 have HP:=Lib.hid hp
 have HQ:=Lib.hid hq
 have HXS:=Lib.hid hxs
 have HYS:=Lib.hid hys
 have HBX:=Lib.hid hbx
 have HV:=Lib.hid hV
 have HVL:Hid (V < 1000000000 ^ L):=by show V < _;rw [← hL];exact hVL
 have HL:=Lib.hid hL
 have HZ:=Lib.hid hz
 have HBEL:=Lib.hid hbel
 have hLb:L≤200000:=by omega
 clear hn hm hp hq hxs hys hbx hV hVL hL hz hbel
 go_enter Tryz.func134,Tryz.ntmps134
 go_wp2
 go_loopw [10,21] (fun ov iv2 wr=>∃ (k:Nat) (o:Int) (out:List Int),ov = .int .i64 o∧iv2 = .int .i64 k∧CombAt a b xs ys L k o out w wr w.heap.size) (fun _ iv2 _=>L - (intOf iv2).toNat)
 case atStart=>exact ⟨0,0,[],rfl,rfl,Nat.zero_le _,col_zero _ _,by decide,by decide,HZ.out,HBEL.out⟩
 case round =>
   obtain ⟨k,o,out,rfl,rfl,hC⟩:=hrel
   have HC:=Lib.hid hC
   have hkL:=hC.le
   have ho0:=hC.lo
   have ho1:=hC.hi
   clear hC HZ HBEL
   by_cases hk:k < L
   · have hk':(k:Int) < (L:Int):=by omega
     have hx:=HXS.out k
     have hy:=HYS.out k
     obtain ⟨x,hxd⟩:∃ x,xs[k]?.getD 0=x:=⟨_,rfl⟩
     obtain ⟨y,hyd⟩:∃ y,ys[k]?.getD 0=y:=⟨_,rfl⟩
     rw [hxd] at hx
     rw [hyd] at hy
     have b1:=HBX.out a x ha0 ha1 hx.1 hx.2
     have b2:=HBX.out b y hb0 hb1 hy.1 hy.2
     obtain ⟨ax,hax⟩:∃ ax,a*x=ax:=⟨_,rfl⟩
     obtain ⟨bz,hbz⟩:∃ bz,b*y=bz:=⟨_,rfl⟩
     have a1:Calls Tryz.prog 161 #[.slice p n c,.int .i64 k] wr fun e w'' => e = .returned (.int .i64 x)∧wr=w'':=by
       have:=at_any p n c xs k wr HN.out (by omega) (by omega) (HP.out.below HC.out.bel)
       rwa [hxd] at this
     have a2:Calls Tryz.prog 161 #[.slice q m d,.int .i64 k] wr fun e w'' => e = .returned (.int .i64 y)∧wr=w'':=by
       have:=at_any q m d ys k wr HM.out (by omega) (by omega) (HQ.out.below HC.out.bel)
       rwa [hyd] at this
     have hcol:a*x+b*y=colC a b xs ys k:=by unfold colC;rw [hxd,hyd]
     have hst:=col_step (by decide:(0:Int) < 1000000000) HC.out.col
     rw [← hcol,hax,hbz] at hst
     rw [hax] at b1
     rw [hbz] at b2
     have w1:IntKind.i64.wrap (a*x)=ax:=by rw [hax];exact IntWalk.i64_in _ (by omega)
     have w2:IntKind.i64.wrap (b*y)=bz:=by rw [hbz];exact IntWalk.i64_in _ (by omega)
     have w3:IntKind.i64.wrap (ax+bz)=ax+bz:=IntWalk.i64_in _ (by omega)
     have w4:IntKind.i64.wrap (ax+bz+o)=o+(ax+bz):=by rw [show ax+bz+o=o+(ax+bz) by omega];exact IntWalk.i64_in _ (by omega)
     have c9:=cut9_any (o+(ax+bz)) wr (by omega) (by omega)
     have hlo : -4000000000≤(o+(ax+bz)) / 1000000000:=by omega
     have hhi:(o+(ax+bz)) / 1000000000≤4000000000:=by omega
     have hlen:=HC.out.col.len
     have hown:=HC.out.own
     obtain ⟨e,he⟩:∃ e,L - k=e+1:=⟨L - k - 1,by omega⟩
     have ci:wr.cell? ⟨w.heap.size,k,none⟩=some (.int .i64 0):=by
       rw [hown.cellAt k (by omega),iv,List.getElem?_map,List.getElem?_append_right (by omega),hlen,Nat.sub_self,he];rfl
     have fi:wr.frozen? ⟨w.heap.size,k,none⟩=false:=hown.frozenAt k
     have hso:=(hown.stored k (.int .i64 ((o+(ax+bz)) % 1000000000))).1
     rw [iv_set,he] at hso
     have hsn:=set_next out e ((o+(ax+bz)) % 1000000000)
     rw [hlen] at hsn
     rw [hsn,show e=L - (k+1) by omega] at hso
     have hbl:=HC.out.bel.setCell (p:=⟨w.heap.size,k,none⟩) (Nat.le_refl _) (.int .i64 ((o+(ax+bz)) % 1000000000))
     obtain ⟨qq,hqq⟩:∃ qq,(o+(ax+bz)) / 1000000000=qq:=⟨_,rfl⟩
     obtain ⟨rr,hrr⟩:∃ rr,(o+(ax+bz)) % 1000000000=rr:=⟨_,rfl⟩
     rw [hqq,hrr] at c9 hst
     rw [hqq] at hlo hhi
     rw [hrr] at hso hbl
     have A1:=Lib.hid a1
     have A2:=Lib.hid a2
     have C9:=Lib.hid c9
     have HST:=Lib.hid hst
     have HSO:=Lib.hid hso
     have HBL:=Lib.hid hbl
     clear a1 a2 c9 hst hso hbl hcol hax hbz hxd hyd hsn hown he hlen hqq hrr
     go_wp2_with (first | (go_at_call 161;first | (with_reducible refine A1.out.mono ?_;rintro e w1 ⟨rfl,rfl⟩) | (with_reducible refine A2.out.mono ?_;rintro e w1 ⟨rfl,rfl⟩)) | (go_at_call 149;refine C9.out.mono ?_;rintro e w1 ⟨rfl,rfl⟩))
     exact ⟨⟨k+1,qq,out ++ [rr],rfl,by go_num,by omega,HST.out,hlo,hhi,HSO.out,HBL.out⟩,by simp [intOf];omega⟩
   · obtain rfl:k=L:=by omega
     have hps:psum 1000000000 (colC a b xs ys) k=V:=by
       have h1:=psum_add2 1000000000 a b (fun j=>xs[j]?.getD 0) (fun j=>ys[j]?.getD 0) k
       rw [← pval_psum 1000000000 xs k (by have:=HN.out;have:=HL.out;omega),← pval_psum 1000000000 ys k (by have:=HM.out;have:=HL.out;omega),HV.out] at h1
       exact h1
     have hend:=col_end (by decide:(0:Int) < 1000000000) HC.out.col (by rw [hps];omega) (by rw [hps];exact cast_pow9 HVL.out)
     rw [hps] at hend
     have hown:=HC.out.own
     rw [Nat.sub_self,List.replicate_zero,List.append_nil] at hown
     obtain ⟨p1,c1,hv1,hnc,hc1,hpn,hh⟩:=has_of_row hown HC.out.col.len
     have hpp:some (⟨w.heap.size,0,none⟩:Addr)=p1∧k=c1:=by injection hv1 with h1 _ h3;exact ⟨h1,h3⟩
     obtain ⟨rfl,rfl⟩:=hpp
     have HH:=Lib.hid (trim_any (some ⟨w.heap.size,0,none⟩) k k out wr HC.out.col.len.symm hnc hc1 hpn hh)
     have HE:Hid (trimP out=pcM V):=by show _=_;exact trim_pcM_of HC.out.col.inr V hend.2
     have HB:=Lib.hid HC.out.bel
     clear hown hh hv1 hps hend
     go_wp2_with (go_at_call 136;refine HH.out.mono ?_;rintro e w1 ⟨p2,n2,c2,rfl,hr⟩;have HR:=Lib.hid hr;clear hr)
     go_ret
     have h9:=RetP.behind HB.out (⟨p2,n2,c2,rfl,HR.out⟩:RetP wr (trimP out) (.returned (.slice p2 n2 c2)) w1)
     rw [HE.out] at h9
     exact h9
structure Sm (w:World) (p:Option Addr) (n c:Nat) (X:Nat):Prop where
 len:n=(pcM X).length
 cap:n≤c
 top:c≤9223372036854775807
 nil:p=none→c=0
 has:Has w p (pcM X)
theorem Sm.below {w w':World} {p:Option Addr} {n c X:Nat} (h:Sm w p n c X) (hb:Below w.heap.size w w'):Sm w' p n c X:=⟨h.len,h.cap,h.top,h.nil,h.has.below hb⟩
theorem chainM {P:Program} {K:FuncId} {args:Array Value} {w w0:World} {X:Nat} (hb:Below w0.heap.size w0 w) (h:Calls P K args w (RetP w (pcM X))) :
   Calls P K args w fun e w' => ∃ p n c,e = .returned (.slice p n c)∧Sm w' p n c X∧Below w.heap.size w w'∧Below w0.heap.size w0 w':=
 h.mono fun _ _ ⟨p,n,c,e,h1,h2,h3,h4,h5,h6⟩=>⟨p,n,c,e,⟨h1,h2,h3,h4,h5⟩,h6,hb.trans (h6.mono hb.size)⟩
theorem combine_sm {p q:Option Addr} {n c m d X Y:Nat} {w:World} (h1:Sm w p n c X) (h2:Sm w q m d Y) (hX:(pcM X).length≤100000) (hY:(pcM Y).length≤100000) (a b:Int)
   (ha0 : -1000000000≤a) (ha1:a≤1000000000) (hb0 : -1000000000≤b) (hb1:b≤1000000000) (V:Nat) (hV:a*X+b*Y=V) (hVL:V < 1000000000 ^ (max (pcM X).length (pcM Y).length+1)) :
   Calls Tryz.prog 134 #[.slice p n c,.int .i64 a,.slice q m d,.int .i64 b] w (RetP w (pcM V)):=
 combine_any p q n c m d _ _ a b w h1.len h2.len (by rw [h1.len];exact hX) (by rw [h2.len];exact hY) h1.has h2.has ha0 ha1 hb0 hb1 (pcM_in X) (pcM_in Y) V (by rw [(pcM_isP X).2,(pcM_isP Y).2];exact hV) (by rw [h1.len,h2.len];exact hVL)
set_option maxRecDepth 512 in
theorem plus_sm {p q:Option Addr} {n c m d X Y:Nat} {w:World} (h1:Sm w p n c X) (h2:Sm w q m d Y) (hX:(pcM X).length≤100000) (hY:(pcM Y).length≤100000) :
   Calls Tryz.prog 152 #[.slice p n c,.slice q m d] w (RetP w (pcM (X+Y))):=by
 have hlt:X+Y < 1000000000 ^ (max (pcM X).length (pcM Y).length+1):=by
   have a:=Nat.lt_of_lt_of_le (pcM_lt X) (Nat.pow_le_pow_right (by decide:0 < 1000000000) (Nat.le_max_left (pcM X).length (pcM Y).length))
   have b:=Nat.lt_of_lt_of_le (pcM_lt Y) (Nat.pow_le_pow_right (by decide:0 < 1000000000) (Nat.le_max_right (pcM X).length (pcM Y).length))
   rw [Nat.pow_succ];omega
 have C:=Lib.hid (combine_sm h1 h2 hX hY 1 1 (by decide) (by decide) (by decide) (by decide) (X+Y) (by omega) hlt)
 clear h1 h2 hX hY hlt
 go_enter Tryz.func152,Tryz.ntmps152
 go_wp2_with (go_at_call 134;refine C.out.mono ?_;rintro e w1 ⟨p2,n2,c2,rfl,hr⟩;have HR:=Lib.hid hr;clear hr)
 go_ret
 exact ⟨p2,n2,c2,rfl,HR.out⟩
set_option maxRecDepth 512 in
theorem less_sm {p q:Option Addr} {n c m d X Y:Nat} {w:World} (h1:Sm w p n c X) (h2:Sm w q m d Y) (hX:(pcM X).length≤100000) (hY:(pcM Y).length≤100000) (hle:Y≤X) :
   Calls Tryz.prog 153 #[.slice p n c,.slice q m d] w (RetP w (pcM (X - Y))):=by
 have hlt:X - Y < 1000000000 ^ (max (pcM X).length (pcM Y).length+1):=by
   have a:=Nat.lt_of_lt_of_le (pcM_lt X) (Nat.pow_le_pow_right (by decide:0 < 1000000000) (Nat.le_trans (Nat.le_max_left (pcM X).length (pcM Y).length) (Nat.le_succ _)))
   have:=Nat.sub_le X Y
   exact Nat.lt_of_le_of_lt this a
 have C:=Lib.hid (combine_sm h1 h2 hX hY 1 (-1) (by decide) (by decide) (by decide) (by decide) (X - Y) (by omega) hlt)
 clear h1 h2 hX hY hlt
 go_enter Tryz.func153,Tryz.ntmps153
 go_wp2_with (go_at_call 134;refine C.out.mono ?_;rintro e w1 ⟨p2,n2,c2,rfl,hr⟩;have HR:=Lib.hid hr;clear hr)
 go_ret
 exact ⟨p2,n2,c2,rfl,HR.out⟩
theorem split_dig (s:ByteArray) (w:World) (hs:s.size≤100000) (hd:s.data.toList.all isDig=true) :
   Calls Tryz.prog 130 #[.string s] w (RetP w (pcM (val s.data.toList))):=by
 obtain ⟨i0,hi,hz0,hz1,hz2⟩:=info_parts info3
 obtain ⟨C,hC⟩:∃ C:Nat,s.size / 9+1=C:=⟨_,rfl⟩
 have hmk:(Instr.makeSlice 135 (.int .i64 0) (.int .i64 ((s.size:Int) / 9+1))).run Tryz.prog w = .ok (.slice (some ⟨w.heap.size,0,none⟩) 0 C) (w.alloc (.cells (madeCells #[Value.int .i64 0] C) 3)):=by
   rw [show ((s.size:Int) / 9+1)=(C:Int) by omega]
   exact make_ints _ Tryz.underlying135 0 C (Nat.zero_le _) (by omega) w
 have hown0:(w.alloc (.cells (madeCells #[Value.int .i64 0] C) 3)).ownsRow w.heap.size 3 1 (.slice (some ⟨w.heap.size,0,none⟩) 0 C) 0 []:=
   World.ownsRow_made w _ C (Nat.le_refl _) (by unfold maxLen;omega) (by rw [size_madeCells];omega)
 have hb0:=(Below.refl w.heap.size w).alloc (Nat.le_refl _) (.cells (madeCells #[Value.int .i64 0] C) 3)
 have HD:=Lib.hid hd
 have HOWN0:=Lib.hid hown0
 have HB0:=Lib.hid hb0
 clear hd hown0 hb0 hC
 go_enter Tryz.func130,Tryz.ntmps130
 go_wp2
 go_loopw [3,4] (fun v zv wr=>∃ (j:Nat) (z:Int) (out:List Int),zv = .int .i64 z∧wr.ownsRow w.heap.size 3 1 v j (iv out)∧Take9 s.data.toList j z out∧Below w.heap.size w wr) (fun _ zv _=>(intOf zv).toNat)
 case atStart=>exact ⟨0,s.size,[],rfl,HOWN0.out,⟨rfl,fun x hx=>by simp at hx,by rw [size_len];simp,by omega,by
   show 0+1*((val (s.data.toList.take ((s.size:Int)).toNat):Nat):Int)=_
   rw [Int.toNat_natCast,val_whole];omega⟩,HB0.out⟩
 case round =>
   obtain ⟨j,z,out,rfl,hown,hta,hb⟩:=hrel
   have HT:=Lib.hid hta
   have hze:=hta.eq
   have hlo:=hta.lo
   rw [← size_len] at hze
   have HZE:=Lib.hid hze
   have hzhi:z≤10000000000:=by omega
   have hjhi:j≤10000000000:=by omega
   clear hta hze
   by_cases hz:0 < z
   · obtain ⟨e,he⟩:∃ e:Nat,z=e:=⟨z.toNat,by omega⟩
     subst he
     have hes:e≤s.size:=by have:=HZE.out;omega
     have hmx:max (0:Int) ((e:Int) - 9)=((e - 9:Nat):Int):=by omega
     obtain ⟨lo,hlo2⟩:∃ lo,e - 9=lo:=⟨_,rfl⟩
     rw [hlo2] at hmx
     have hle:lo≤e:=by omega
     have HLO:=Lib.hid hlo2
     clear hlo2
     go_wp2
     obtain ⟨wo,rfl⟩:∃ wo:World,wo=wr:=⟨_,rfl⟩
     go_loop [5,6] (fun nv iv2=>∃ i:Nat,lo≤i∧i≤e∧iv2 = .int .i64 i∧nv = .int .i64 (val (win s.data.toList lo i):Int)) (fun _ iv2=>e - (intOf iv2).toNat)
     case atStart=>exact ⟨lo,Nat.le_refl _,hle,rfl,by simp [win,val,valFrom]⟩
     case round =>
       obtain ⟨i,hil,hie,rfl,rfl⟩:=hrel
       have hvb:val (win s.data.toList lo i) < 1000000000:=by
         have h1:=val_lt _ (win_dig HD.out lo i)
         rw [win_len _ lo i (by rw [← size_len];omega)] at h1
         have h2:10 ^ (i - lo)≤10 ^ 9:=Nat.pow_le_pow_right (by decide) (by have:=HLO.out;omega)
         exact Nat.lt_of_lt_of_le h1 h2
       by_cases hlt:i < e
       · have his:i < s.size:=by omega
         have hdig:isDig s[i]=true:=List.all_eq_true.1 HD.out s[i] (List.mem_of_getElem (i:=i) (h:=by simpa using his) rfl)
         have hd1:=isDig_iff.1 hdig
         have hws:val (win s.data.toList lo (i+1))=val (win s.data.toList lo i)*10+(s[i].toNat - 48):=win_succ s lo i hil his
         have HW:=Lib.hid hws
         obtain ⟨V,hV⟩:∃ V,val (win s.data.toList lo i)=V:=⟨_,rfl⟩
         rw [hV] at hvb ⊢
         have HVV:=Lib.hid hV
         clear hws hV hdig
         go_wp2
         go_round
         case rel=>exact ⟨i+1,by omega,by omega,by go_num,by rw [HW.out,HVV.out];go_num⟩
         case measure=>simp [intOf];omega
       · obtain rfl:i=e:=by omega
         obtain ⟨V,hV⟩:∃ V,val (win s.data.toList lo i)=V:=⟨_,rfl⟩
         rw [hV] at hvb ⊢
         have hst:=(take9_step HD.out HT.out hz i rfl).1
         rw [HLO.out,hV] at hst
         have HS:=Lib.hid hst
         clear hst hV
         go_wp2_with (at_builtin;refine wpList_append_own _ rfl _ _ 135 rfl w.heap.size 3 i0 (.int .i64 0) 1 8 Tryz.underlying135 hi hz0 hz1 hz2 rfl (by decide) _ _ _ rfl (hown.alloc _) ⟨wo.heap.size,0,none⟩ 1 1 [.int .i64 (V:Int)] rfl rfl ?c1 ?c2 ?c3 ?c4 ?c5 ?_)
         case c2=>simp [Value.oneCell']
         case c3=>unfold maxLen;omega
         case c4=>omega
         case c5=>have:=hb.size;omega
         intro v' w1 hown1 hgrow _
         rw [iv_snoc] at hown1
         have hb1:=(hb.alloc hb.size (Obj.cells #[Value.int IntKind.i64 (V:Int)] 3)).grown hgrow (by simp only [World.size_alloc];have:=hb.size;omega) (own_ge3 hown)
         have HB:=Lib.hid hb1
         have HO:=Lib.hid hown1
         clear hb hown hgrow hb1 hown1
         go_wp2
         go_roundw
         case rel=>exact ⟨j+1,(i:Int) - 9,out ++ [(V:Int)],rfl,HO.out,HS.out,HB.out⟩
         case measure=>simp [intOf];omega
   · have hlen:=HT.out.len
     have hval:pval 1000000000 out=(val s.data.toList:Int):=by
       have h1:=HT.out.sum
       rw [show z.toNat=0 by omega] at h1
       have h2:pval 1000000000 out+1000000000 ^ j*((val (s.data.toList.take 0):Nat):Int)=_:=h1
       rw [← h2];simp [val,valFrom]
     obtain ⟨p1,c1,rfl,hnc,hc1,hpn,hh⟩:=has_of_row hown hlen
     have HH:=Lib.hid (trim_any p1 j c1 out wr hlen.symm hnc hc1 hpn hh)
     have HE:Hid (trimP out=pcM (val s.data.toList)):=by show _=_;rw [trim_pcM_of HT.out.inr _ hval]
     have HB:=Lib.hid hb
     clear hown hh hb hlen hval hpn
     go_wp2_with (go_at_call 136;refine HH.out.mono ?_;rintro e w1 ⟨p2,n2,c2,rfl,hr⟩;have HR:=Lib.hid hr;clear hr)
     go_ret
     have h9:=RetP.behind HB.out (⟨p2,n2,c2,rfl,HR.out⟩:RetP wr (trimP out) (.returned (.slice p2 n2 c2)) w1)
     rw [HE.out] at h9
     exact h9
theorem cI_lt {a b:Int} (h:a < b):Lib.compareInt a b = -1:=by unfold Lib.compareInt;rw [if_pos h]
theorem cI_gt {a b:Int} (h:b < a):Lib.compareInt a b=1:=by unfold Lib.compareInt;rw [if_neg (by omega),if_pos h]
theorem cI_eq {a b:Int} (h:a=b):Lib.compareInt a b=0:=by unfold Lib.compareInt;rw [if_neg (by omega),if_neg (by omega)]
theorem pcmp_ne (p q:Option Addr) (n c m d:Nat) (w:World) (h:n≠m) (_hn:n≤1000000) (_hm:m≤1000000) :
   Calls Tryz.prog 131 #[.slice p n c,.slice q m d] w (Ret w (.int .i64 (Lib.compareInt n m))):=by
 have c1:∀ w,Calls Tryz.prog 61 #[.int .i64 n,.int .i64 m] w fun e w' => e = .returned (.int .i64 (Lib.compareInt n m))∧w'=w:=fun w=>Tryz.cmp_Compare_int n m w
 rcases Nat.lt_or_gt_of_ne h with h2 | h2
 · rw [cI_lt (by omega)] at c1 ⊢
   have C1:=Lib.hid c1
   clear c1
   go_enter Tryz.func131,Tryz.ntmps131
   go_wp2_with (go_at_call 61;refine (C1.out _).mono ?_;rintro e w2 ⟨rfl,rfl⟩)
   go_ret
   exact ⟨rfl,Below.refl _ _⟩
 · rw [cI_gt (by omega)] at c1 ⊢
   have C1:=Lib.hid c1
   clear c1
   go_enter Tryz.func131,Tryz.ntmps131
   go_wp2_with (go_at_call 61;refine (C1.out _).mono ?_;rintro e w2 ⟨rfl,rfl⟩)
   go_ret
   exact ⟨rfl,Below.refl _ _⟩
theorem pcmp_nil (p q:Option Addr) (c d:Nat) (w:World) :
   Calls Tryz.prog 131 #[.slice p 0 c,.slice q 0 d] w (Ret w (.int .i64 0)):=by
 have c1:∀ w,Calls Tryz.prog 61 #[.int .i64 0,.int .i64 0] w fun e w' => e = .returned (.int .i64 0)∧w'=w:=fun w=>Tryz.cmp_Compare_int 0 0 w
 have C1:=Lib.hid c1
 clear c1
 go_enter Tryz.func131,Tryz.ntmps131
 go_wp2_with (go_at_call 61;refine (C1.out _).mono ?_;rintro e w2 ⟨rfl,rfl⟩)
 refine wp_loop_rounds 1 ?_
 rw [rounds_succ]
 go_wp2
 go_ret
 exact ⟨rfl,Below.refl _ _⟩
theorem pcmp_some (b1 o1 c1 b2 o2 c2 n:Nat) (xs ys:List Int) (w:World) (hn1:n=xs.length) (hn2:n=ys.length) (hm:n≤1000000) (hb1:b1 < w.heap.size) (hb2:b2 < w.heap.size) (hx:IsP 1000000000 xs) (hy:IsP 1000000000 ys)
   (hcx:∀ i,i < xs.length→w.cell? ⟨b1,o1+i,none⟩=some (.int .i64 (xs[i]?.getD 0))) (hcy:∀ i,i < ys.length→w.cell? ⟨b2,o2+i,none⟩=some (.int .i64 (ys[i]?.getD 0))) :
   Calls Tryz.prog 131 #[.slice (some ⟨b1,o1,none⟩) n c1,.slice (some ⟨b2,o2,none⟩) n c2] w (Ret w (.int .i64 (Lib.compareInt (pval 1000000000 xs) (pval 1000000000 ys)))):=by
 have k1:∀ w,Calls Tryz.prog 61 #[.int .i64 n,.int .i64 n] w fun e w' => e = .returned (.int .i64 0)∧w'=w:=fun w=>by
   have:=Tryz.cmp_Compare_int n n w;rwa [cI_eq rfl] at this
 have K1:=Lib.hid k1
 have H1:=Lib.hid hn1
 have H2:=Lib.hid hn2
 have HX:=Lib.hid hx
 have HY:=Lib.hid hy
 have HCX:=Lib.hid hcx
 have HCY:=Lib.hid hcy
 clear hn1 hn2 hx hy hcx hcy k1
 go_enter Tryz.func131,Tryz.ntmps131
 go_wp2_with (go_at_call 61;refine (K1.out _).mono ?_;rintro e w2 ⟨rfl,rfl⟩)
 go_loopw [6] (fun v wr=>∃ k:Nat,k≤n∧v = .int .i64 ((k:Int) - 1)∧xs.drop k=ys.drop k∧Below w2.heap.size w2 wr) (fun v _=>(intOf v+1).toNat)
 case atStart=>exact ⟨n,Nat.le_refl _,rfl,by rw [List.drop_eq_nil_of_le (by have:=H1.out;omega),List.drop_eq_nil_of_le (by have:=H2.out;omega)],Below.refl _ _⟩
 case round =>
   obtain ⟨k,hk,rfl,hd,hb⟩:=hrel
   have HD:=Lib.hid hd
   clear hd
   by_cases h0:k=0
   · subst h0
     go_wp2
     go_ret
     exact ⟨retI (by rw [show xs=ys from HD.out,cI_eq rfl]),hb⟩
   · obtain ⟨j,rfl⟩:∃ j,k=j+1:=⟨k - 1,by omega⟩
     have hcj:=(hb.cell (p:=⟨b1,o1+j,none⟩) hb1).trans (HCX.out j (by have:=H1.out;omega))
     have hdj:=(hb.cell (p:=⟨b2,o2+j,none⟩) hb2).trans (HCY.out j (by have:=H2.out;omega))
     obtain ⟨x,hx⟩:∃ x,xs[j]?.getD 0=x:=⟨_,rfl⟩
     obtain ⟨y,hy⟩:∃ y,ys[j]?.getD 0=y:=⟨_,rfl⟩
     rw [hx] at hcj
     rw [hy] at hdj
     have X:=Lib.hid hx
     have Y:=Lib.hid hy
     clear hx hy
     have hj2:(j:Int) < (n:Int):=by omega
     by_cases hxy:x=y
     · subst hxy
       go_wp2
       go_quiet (fail)
       go_wp2
       go_roundw
       case rel=>exact ⟨j,by omega,by go_num,by
         have e:∀ (zs:List Int) (h:j < zs.length),zs.drop j=zs[j]?.getD 0 :: zs.drop (j+1):=fun zs h=>by
           rw [List.getElem?_eq_getElem h];exact (List.getElem_cons_drop h).symm
         rw [e xs (by have:=H1.out;omega),e ys (by have:=H2.out;omega),X.out,Y.out,HD.out],Below.drews hb _⟩
       case measure=>simp [intOf]
     · have hne:(x == y)=false:=by simpa using hxy
       have hres:Lib.compareInt x y=Lib.compareInt (pval 1000000000 xs) (pval 1000000000 ys):=by
         by_cases hlt:x < y
         · rw [cI_lt hlt,cI_lt (pval_top (by decide) HX.out.1 HY.out.1 (by have:=H1.out;omega) (by have:=H2.out;omega) HD.out (by rw [X.out,Y.out];exact hlt))]
         · have hgt:y < x:=by omega
           rw [cI_gt hgt,cI_gt (pval_top (by decide:(0:Int) < 1000000000) HY.out.1 HX.out.1 (k:=j) (by have:=H2.out;omega) (by have:=H1.out;omega) HD.out.symm (by rw [X.out,Y.out];exact hgt))]
       have HR:=Lib.hid hres
       have k2:∀ w,Calls Tryz.prog 61 #[.int .i64 x,.int .i64 y] w fun e w' => e = .returned (.int .i64 (Lib.compareInt x y))∧w'=w:=fun w=>Tryz.cmp_Compare_int x y w
       have K2:=Lib.hid k2
       clear hres k2
       go_wp2
       go_quiet (fail)
       go_wp2
       go_quiet (first | (go_at_call 61;exact (K2.out _).mono fun _ _ ⟨he,hw⟩=>⟨he,_,hw⟩))
       go_wp2
       go_ret
       exact ⟨retI HR.out,Below.drews (Below.drews hb _) _⟩
theorem pcmp_any (p q:Option Addr) (n c m d X Y:Nat) (w:World) (h1:n=(pcM X).length) (h2:m=(pcM Y).length) (hnl:n≤1000000) (hml:m≤1000000) (hp:Has w p (pcM X)) (hq:Has w q (pcM Y)) :
   Calls Tryz.prog 131 #[.slice p n c,.slice q m d] w (Ret w (.int .i64 (Lib.compareInt X Y))):=by
 obtain ⟨iX,vX⟩:=pcM_isP X
 obtain ⟨iY,vY⟩:=pcM_isP Y
 by_cases hnm:n=m
 · subst hnm
   by_cases hz:n=0
   · subst hz
     have z1:=pcM_nil h1.symm
     have z2:=pcM_nil h2.symm
     subst z1 z2
     exact pcmp_nil p q c d w
   · rcases hp with e1 | ⟨b1,o1,rfl,hb1,hc1⟩
     · exact absurd (by rw [h1,e1];rfl) hz
     rcases hq with e2 | ⟨b2,o2,rfl,hb2,hc2⟩
     · exact absurd (by rw [h2,e2];rfl) hz
     · have:=pcmp_some b1 o1 c b2 o2 d n _ _ w h1 h2 hnl hb1 hb2 iX iY hc1 hc2
       rwa [vX,vY] at this
 · have:=pcmp_ne p q n c m d w hnm hnl hml
   have e:Lib.compareInt n m=Lib.compareInt X Y:=by
     rcases Nat.lt_or_gt_of_ne hnm with h | h
     · have:=pval_len (by decide:(0:Int) < 1000000000) iX iY (by omega)
       rw [vX,vY] at this
       rw [cI_lt (by omega),cI_lt this]
     · have:=pval_len (by decide:(0:Int) < 1000000000) iY iX (by omega)
       rw [vX,vY] at this
       rw [cI_gt (by omega),cI_gt this]
   rwa [e] at this
theorem convAt_lo {xs ys:List Int} {k j:Nat} (h:j < k+1 - ys.length):convAt xs ys k j=0:=by
 unfold convAt;rw [List.getElem?_eq_none (l:=ys) (by omega)];simp
theorem convAt_hi {xs ys:List Int} {k j:Nat} (h:xs.length≤j):convAt xs ys k j=0:=by
 unfold convAt;rw [List.getElem?_eq_none (l:=xs) (by omega)];simp
structure TimesAt (xs ys:List Int) (L k:Nat) (o:Int) (out:List Int) (W0 wr:World) (B:Nat):Prop where
 le:k≤L
 col:ColAt 1000000000 (conv xs ys) k o out
 lo:0≤o
 hi:o≤900000000000000
 own:wr.ownsRow B 3 1 (.slice (some ⟨B,0,none⟩) L L) L (iv (out ++ List.replicate (L - k) 0))
 bel:Below B W0 wr
theorem times_any (p q:Option Addr) (c d n m:Nat) (xs ys:List Int) (w:World) (hn:n=xs.length) (hm:m=ys.length) (hnl:n≤100000) (hml:m≤100000) (hp:Has w p xs) (hq:Has w q ys)
   (hxs:∀ j:Nat,0≤xs[j]?.getD 0∧xs[j]?.getD 0 < 1000000000) (hys:∀ j:Nat,0≤ys[j]?.getD 0∧ys[j]?.getD 0 < 1000000000)
   (V:Nat) (hV:pval 1000000000 xs*pval 1000000000 ys=V) (hVL:V < 1000000000 ^ (n+m)) :
   Calls Tryz.prog 124 #[.slice p n c,.slice q m d] w (RetP w (pcM V)):=by
 obtain ⟨L,hL⟩:∃ L:Nat,n+m=L:=⟨_,rfl⟩
 have hLi:(n:Int)+(m:Int)=(L:Int):=by omega
 have hmk:(Instr.makeSlice 135 (.int .i64 (L:Int)) (.int .i64 (L:Int))).run Tryz.prog w = .ok (.slice (some ⟨w.heap.size,0,none⟩) L L) (w.alloc (.cells (madeCells #[Value.int .i64 0] L) 3)):=
   make_ints _ Tryz.underlying135 L L (Nat.le_refl _) (by omega) w
 have hz:=own_zeros w L (by omega)
 have hbel:=(Below.refl w.heap.size w).alloc (Nat.le_refl _) (.cells (madeCells #[Value.int .i64 0] L) 3)
 have HN:=Lib.hid hn
 have HM:=Lib.hid hm
 have HP:=Lib.hid hp
 have HQ:=Lib.hid hq
 have HXS:=Lib.hid hxs
 have HYS:=Lib.hid hys
 have HV:=Lib.hid hV
 have HVL:Hid (V < 1000000000 ^ L):=by show V < _;rw [← hL];exact hVL
 have HL:=Lib.hid hL
 have HZ:=Lib.hid hz
 have HBEL:=Lib.hid hbel
 have hLb:L≤200000:=by omega
 clear hn hm hp hq hxs hys hV hVL hL hz hbel
 go_enter Tryz.func124,Tryz.ntmps124
 go_wp2
 go_loopw [6,19] (fun ov iv2 wr=>∃ (k:Nat) (o:Int) (out:List Int),ov = .int .i64 o∧iv2 = .int .i64 k∧TimesAt xs ys L k o out w wr w.heap.size) (fun _ iv2 _=>L - (intOf iv2).toNat)
 case atStart=>exact ⟨0,0,[],rfl,rfl,Nat.zero_le _,col_zero _ _,by decide,by decide,HZ.out,HBEL.out⟩
 case round =>
   obtain ⟨k,o,out,rfl,rfl,hC⟩:=hrel
   have HC:=Lib.hid hC
   have hkL:=hC.le
   have ho0:=hC.lo
   have ho1:=hC.hi
   clear hC HZ HBEL hmk hLi
   by_cases hk:k < L
   · have hk':(k:Int) < (L:Int):=by omega
     obtain ⟨lo,hlo⟩:∃ lo:Nat,k+1 - m=lo:=⟨_,rfl⟩
     have hmx:max (0:Int) ((k:Int) - (m:Int)+1)=(lo:Int):=by omega
     have hst0:dsum (convAt xs ys k) lo=0:=dsum_zero _ fun j hj=>convAt_lo (by have:=HM.out;omega)
     have HST0:=Lib.hid hst0
     have HLO:=Lib.hid hlo
     have hlok:lo≤k+1:=by omega
     have hlon:lo≤n:=by have:=HL.out;omega
     clear hst0 hlo
     go_wp2
     go_loopw [8,9,10] (fun sv fv iv3 wr2=>∃ (i f:Nat) (s:Int),sv = .int .i64 s∧fv = .int .i64 f∧iv3 = .int .i64 i∧lo≤i∧i≤k+1∧i≤n∧0≤s∧s < 8000000000000000000∧f≤i∧s+f*8000000000000000000=o+dsum (convAt xs ys k) i∧∃ nq,wr2=wr.drewN nq) (fun _ _ iv3 _=>k+1 - (intOf iv3).toNat)
     case atStart=>exact ⟨lo,0,o,rfl,rfl,rfl,Nat.le_refl _,hlok,hlon,ho0,by omega,Nat.zero_le _,by rw [HST0.out];omega,0,rfl⟩
     case round =>
       obtain ⟨i,f,s,rfl,rfl,rfl,hil,hik,hin,hs0,hs1,hf,hsum,nq0,rfl⟩:=hrel
       have HSUM:=Lib.hid hsum
       clear hsum
       by_cases hi:i≤k∧i < n
       · have hcond:(i:Int)≤min (k:Int) ((n:Int) - 1):=by omega
         obtain ⟨j,hj⟩:∃ j:Nat,k - i=j:=⟨_,rfl⟩
         have hji:(k:Int) - (i:Int)=(j:Int):=by omega
         have hjm:j < m:=by have:=HLO.out;omega
         have hx:=HXS.out i
         have hy:=HYS.out j
         rcases HP.out with hpe | ⟨b1,o1,rfl,hb1,hcx⟩
         · exfalso;have:=HN.out;rw [hpe] at this;have h9:=hi.2;rw [this] at h9;exact absurd h9 (Nat.not_lt_zero _)
         rcases HQ.out with hqe | ⟨b2,o2,rfl,hb2,hcy⟩
         · exfalso;have:=HM.out;rw [hqe] at this;rw [this] at hjm;exact absurd hjm (Nat.not_lt_zero _)
         have hcxi:=(HC.out.bel.cell (p:=⟨b1,o1+i,none⟩) hb1).trans (hcx i (by have:=HN.out;omega))
         have hcyj:=(HC.out.bel.cell (p:=⟨b2,o2+j,none⟩) hb2).trans (hcy j (by have:=HM.out;omega))
         have hdn:dsum (convAt xs ys k) (i+1)=dsum (convAt xs ys k) i+xs[i]?.getD 0*ys[j]?.getD 0:=by rw [← hj];rfl
         obtain ⟨x,hxd⟩:∃ x,xs[i]?.getD 0=x:=⟨_,rfl⟩
         obtain ⟨y,hyd⟩:∃ y,ys[j]?.getD 0=y:=⟨_,rfl⟩
         rw [hxd] at hx hcxi hdn
         rw [hyd] at hy hcyj hdn
         have hp0:0≤x*y:=Int.mul_nonneg hx.1 hy.1
         have hp1:x*y≤1000000000000000000:=by
           have:=Int.mul_le_mul (show x≤1000000000 by omega) (show y≤1000000000 by omega) hy.1 (by decide);omega
         obtain ⟨pr,hpr⟩:∃ pr,x*y=pr:=⟨_,rfl⟩
         rw [hpr] at hp0 hp1 hdn
         have w1:IntKind.i64.wrap (x*y)=pr:=by rw [hpr];exact IntWalk.i64_in _ (by omega)
         have w2:IntKind.i64.wrap (s+pr)=s+pr:=IntWalk.i64_in _ (by omega)
         have hsn:=HSUM.out
         have HDN:=Lib.hid hdn
         have i1:(i:Int) < (n:Int):=by omega
         have i2:(j:Int) < (m:Int):=by omega
         have w3:IntKind.i64.wrap ((k:Int) - (i:Int))=(j:Int):=by rw [hji];exact IntWalk.i64_in _ (by omega)
         clear hdn hxd hyd hpr hj hsn hcx hcy
         go_wp2
         go_quiet (fail)
         go_wp2
         · exact ⟨⟨i+1,f+1,s+pr - 8000000000000000000,rfl,by go_num,by go_num,by omega,by omega,by omega,by omega,by omega,by omega,by rw [HDN.out];have:=HSUM.out;omega,_,rfl⟩,by simp [intOf];omega⟩
         · exact ⟨⟨i+1,f,s+pr,rfl,rfl,by go_num,by omega,by omega,by omega,by omega,by omega,by omega,by rw [HDN.out];have:=HSUM.out;omega,_,rfl⟩,by simp [intOf];omega⟩
       · have hcond:¬ (i:Int)≤min (k:Int) ((n:Int) - 1):=by omega
         have hcv:conv xs ys k=dsum (convAt xs ys k) i:=dsum_more hik (fun j h1 h2=>convAt_hi (by have:=HN.out;omega))
         have hT:o+conv xs ys k=s+f*8000000000000000000:=by rw [hcv];exact HSUM.out.symm
         have hst:=col_step (by decide:(0:Int) < 1000000000) HC.out.col
         rw [hT,show (s+(f:Int)*8000000000000000000) / 1000000000=s / 1000000000+f*8000000000 by omega,show (s+(f:Int)*8000000000000000000) % 1000000000=s % 1000000000 by omega] at hst
         have hq0:0≤s / 1000000000:=by omega
         have hq1:s / 1000000000≤8000000000:=by omega
         have hfn:(f:Int)≤100000:=by omega
         obtain ⟨W9,hW9⟩:∃ W9,wr.drewN nq0=W9:=⟨_,rfl⟩
         have hown:W9.ownsRow w.heap.size 3 1 (.slice (some ⟨w.heap.size,0,none⟩) L L) L (iv (out ++ List.replicate (L - k) 0)):=by rw [← hW9];exact HC.out.own
         have hbl9:Below w.heap.size w W9:=by rw [← hW9];exact Below.drews HC.out.bel _
         rw [hW9]
         clear hW9
         have c9:=cut9_any s W9 (by omega) (by omega)
         obtain ⟨qq,hqq⟩:∃ qq,s / 1000000000=qq:=⟨_,rfl⟩
         obtain ⟨rr,hrr⟩:∃ rr,s % 1000000000=rr:=⟨_,rfl⟩
         rw [hqq,hrr] at c9 hst
         rw [hqq] at hq0 hq1
         obtain ⟨f8,hf8⟩:∃ f8,(f:Int)*8000000000=f8:=⟨_,rfl⟩
         have hf80:0≤f8:=by omega
         have hf81:f8≤800000000000000:=by omega
         rw [hf8] at hst
         have hz1:0≤qq+f8:=by omega
         have hz2:qq+f8≤900000000000000:=by omega
         have hz3:k+1≤L:=by omega
         have hz4:L - (k+1) < L - k:=by omega
         have w1:IntKind.i64.wrap ((f:Int)*8000000000)=f8:=by rw [hf8];exact IntWalk.i64_in _ (by omega)
         have w2:IntKind.i64.wrap (qq+f8)=qq+f8:=IntWalk.i64_in _ (by omega)
         have hlen:=HC.out.col.len
         obtain ⟨e,he⟩:∃ e,L - k=e+1:=⟨L - k - 1,by omega⟩
         have ci:W9.cell? ⟨w.heap.size,k,none⟩=some (.int .i64 0):=by
           rw [hown.cellAt k (by omega),iv,List.getElem?_map,List.getElem?_append_right (by omega),hlen,Nat.sub_self,he];rfl
         have fi:W9.frozen? ⟨w.heap.size,k,none⟩=false:=hown.frozenAt k
         have hso:=(hown.stored k (.int .i64 rr)).1
         rw [iv_set,he] at hso
         have hsn:=set_next out e rr
         rw [hlen] at hsn
         rw [hsn,show e=L - (k+1) by omega] at hso
         have hbl:=hbl9.setCell (p:=⟨w.heap.size,k,none⟩) (Nat.le_refl _) (.int .i64 rr)
         have C9:=Lib.hid c9
         have HST:=Lib.hid hst
         have HSO:=Lib.hid hso
         have HBL:=Lib.hid hbl
         clear c9 hst hso hbl hsn hown he hlen hqq hrr hcv hT hbl9 hf8 hs0 hs1 hf
         go_wp2_with (go_at_call 149;refine C9.out.mono ?_;rintro e w1 ⟨rfl,rfl⟩)
         exact ⟨⟨k+1,qq+f8,out ++ [rr],rfl,by go_num,hz3,HST.out,hz1,hz2,HSO.out,HBL.out⟩,hz4⟩
   · obtain rfl:k=L:=by omega
     have hps:psum 1000000000 (conv xs ys) k=V:=by
       rw [conv_sum 1000000000 ys xs k (by have:=HN.out;have:=HM.out;have:=HL.out;omega)];exact HV.out
     have hend:=col_end (by decide:(0:Int) < 1000000000) HC.out.col (by rw [hps];omega) (by rw [hps];exact cast_pow9 HVL.out)
     rw [hps] at hend
     have hown:=HC.out.own
     rw [Nat.sub_self,List.replicate_zero,List.append_nil] at hown
     obtain ⟨p1,c1,hv1,hnc,hc1,hpn,hh⟩:=has_of_row hown HC.out.col.len
     have hpp:some (⟨w.heap.size,0,none⟩:Addr)=p1∧k=c1:=by injection hv1 with h1 _ h3;exact ⟨h1,h3⟩
     obtain ⟨rfl,rfl⟩:=hpp
     have HH:=Lib.hid (trim_any (some ⟨w.heap.size,0,none⟩) k k out wr HC.out.col.len.symm hnc hc1 hpn hh)
     have HE:Hid (trimP out=pcM V):=by show _=_;exact trim_pcM_of HC.out.col.inr V hend.2
     have HB:=Lib.hid HC.out.bel
     clear hown hh hv1 hps hend
     go_wp2_with (go_at_call 136;refine HH.out.mono ?_;rintro e w1 ⟨p2,n2,c2,rfl,hr⟩;have HR:=Lib.hid hr;clear hr)
     go_ret
     have h9:=RetP.behind HB.out (⟨p2,n2,c2,rfl,HR.out⟩:RetP wr (trimP out) (.returned (.slice p2 n2 c2)) w1)
     rw [HE.out] at h9
     exact h9
theorem times_sm {p q:Option Addr} {n c m d X Y:Nat} {w:World} (h1:Sm w p n c X) (h2:Sm w q m d Y) (hX:(pcM X).length≤100000) (hY:(pcM Y).length≤100000) :
   Calls Tryz.prog 124 #[.slice p n c,.slice q m d] w (RetP w (pcM (X*Y))):=by
 refine times_any p q c d n m _ _ w h1.len h2.len (by rw [h1.len];exact hX) (by rw [h2.len];exact hY) h1.has h2.has (pcM_in X) (pcM_in Y) (X*Y) (by rw [(pcM_isP X).2,(pcM_isP Y).2,Int.natCast_mul]) ?_
 rw [h1.len,h2.len,Nat.pow_add]
 exact Nat.mul_lt_mul'' (pcM_lt X) (pcM_lt Y)
end Go.Proofs.YtpiiclmkbplkhaaGreatDoor.Kl
