import Derived.RegionTactic
import Derived.Deep.DeepCutAuto
import Derived.Deep.CutBlock
import Derived.Test.YtpiiclmkbplkhaaGreatDoorKlBPcsMZ
namespace Go.Proofs.YtpiiclmkbplkhaaGreatDoor.Kl
open Go
set_option maxRecDepth 100000
set_option maxHeartbeats 8000000
theorem psum_in {B:Int} (hB:0 < B) {f:Nat→Int} (h:∀ j,0≤f j∧f j < B):∀ n,0≤psum B f n∧psum B f n < B ^ n
 | 0=>⟨Int.le_refl _,by simp [psum]⟩
 | n+1=>by
   obtain ⟨i1,i2⟩:=psum_in hB h n
   have h1:=h n
   have hp:0 < B ^ n:=Int.pow_pos hB
   have h2:0≤B ^ n*f n:=Int.mul_nonneg (by omega) h1.1
   have h3:B ^ n*(f n+1)≤B ^ n*B:=Int.mul_le_mul_of_nonneg_left (by omega) (by omega)
   rw [Int.mul_add,Int.mul_one] at h3
   refine ⟨?_,?_⟩
   · show 0≤psum B f n+B ^ n*f n;omega
   · show psum B f n+B ^ n*f n < B ^ (n+1);rw [Int.pow_succ];omega
theorem psum_top2 (B:Int) (g:Nat→Int) (m:Nat):psum B g (m+2)=psum B g m+B ^ m*(g m+B*g (m+1)):=by
 show psum B g m+B ^ m*g m+B ^ (m+1)*g (m+1)=_
 rw [Int.pow_succ,Int.mul_add,Int.mul_assoc];omega
theorem psum_top3 (B:Int) (f:Nat→Int) (m:Nat):psum B f (m+3)=psum B f m+B ^ m*(f m+B*(f (m+1)+f (m+2)*B)):=by
 show psum B f m+B ^ m*f m+B ^ (m+1)*f (m+1)+B ^ (m+1+1)*f (m+2)=_
 rw [Int.pow_succ B (m+1),Int.pow_succ,Int.mul_add,Int.mul_add,Int.mul_add,Int.mul_assoc,Int.mul_assoc,Int.mul_assoc,Int.mul_comm (f (m+2)) B];omega
theorem est_top {P B a b u2 top v2 v1 Q U V:Int} (hP:0 < P) (hB:0 < B) (ha:a < P) (hb:0≤b) (hu2:u2 < B) (hv2:0≤v2) (hU:U=a+P*(u2+B*top)) (hV:V=b+P*(v2+B*v1)) (hQ:0≤Q) (hQV:Q*V≤U) :
   Q*v1≤top∧Q*v2≤(top - Q*v1)*B+u2:=by
 have h1:0≤Q*b:=Int.mul_nonneg hQ hb
 have h2:P*(Q*(v2+B*v1)) < P*(u2+B*top+1):=by
   have e:Q*V=Q*b+P*(Q*(v2+B*v1)):=by rw [hV,Int.mul_add,Int.mul_left_comm]
   rw [Int.mul_add P (u2+B*top) 1];omega
 have h3:=Int.lt_of_mul_lt_mul_left h2 (Int.le_of_lt hP)
 have e2:Q*(v2+B*v1)=Q*v2+B*(Q*v1):=by rw [Int.mul_add,Int.mul_left_comm]
 rw [e2] at h3
 have h4:0≤Q*v2:=Int.mul_nonneg hQ hv2
 refine ⟨?_,?_⟩
 · have h5:B*(Q*v1) < B*(top+1):=by rw [Int.mul_add,Int.mul_one];omega
   have:=Int.lt_of_mul_lt_mul_left h5 (Int.le_of_lt hB);omega
 · rw [Int.sub_mul,Int.mul_comm top B,Int.mul_comm (Q*v1) B];omega
theorem est_step {P B a b u2 top v2 v1 Q U V t:Int} (hP:0 < P) (hB:0 < B) (ha:a < P) (hb:0≤b) (hu2:u2 < B) (hv2:0≤v2) (hU:U=a+P*(u2+B*top)) (hV:V=b+P*(v2+B*v1)) (hQ:0≤Q) (hQV:Q*V≤U) (ht:Q≤t)
   (hc:(top - t*v1)*B+u2 < t*v2):Q≤t - 1:=by
 have h:=(est_top hP hB ha hb hu2 hv2 hU hV hQ hQV).2
 have:Q≠t:=fun e=>by subst e;omega
 omega
theorem red_end {V U t low un P:Int} (hV:0 < V) (hVP:V≤P) (hl0:0≤low) (heq:low+P*un=U - t*V) (ht:U / V≤t) (hun:0≤un):t=U / V∧un=0∧low=U % V:=by
 have hP:0 < P:=by omega
 have h1:0≤P*un:=Int.mul_nonneg (by omega) hun
 have h2:t*V≤U:=by omega
 have h3:t≤U / V:=(Int.le_ediv_iff_mul_le hV).2 h2
 have h4:t=U / V:=by omega
 have h5:=Int.emod_add_mul_ediv U V
 have h6:=Int.emod_lt_of_pos U hV
 have h7:U % V=low+P*un:=by rw [heq,h4,Int.mul_comm];omega
 have h8:un=0:=by
   rcases Int.lt_or_le 0 un with h | h
   · have:P*1≤P*un:=Int.mul_le_mul_of_nonneg_left (by omega) (by omega)
     omega
   · omega
 subst h8
 exact ⟨h4,rfl,by omega⟩
theorem red_neg {V U t low un P:Int} (hV:0 < V) (hl1:low < P) (heq:low+P*un=U - t*V) (hP:0 < P) (hun:un < 0):U / V≤t - 1:=by
 have h1:P*un≤P*(-1):=Int.mul_le_mul_of_nonneg_left (by omega) (by omega)
 have h2:U < t*V:=by omega
 have h3:U / V < t:=Int.ediv_lt_of_lt_mul hV h2
 omega
end Go.Proofs.YtpiiclmkbplkhaaGreatDoor.Kl
namespace Go.Proofs.YtpiiclmkbplkhaaGreatDoor.Kl
open Go Go.RowKit
set_option maxRecDepth 100000
set_option maxHeartbeats 8000000
theorem retSl {p:Option Addr} {n m c:Nat} (h:n=m):Ending.returned (.slice p n c) = .returned (.slice p m c):=by rw [h]
theorem trimP_take (xs:List Int):trimP xs=xs.take (trimP xs).length:=by
 have key:∀ (n:Nat) (xs:List Int),xs.length=n→trimP xs=xs.take (trimP xs).length:=by
   intro n
   induction n with
   | zero=>intro xs h;rw [List.length_eq_zero_iff.1 h];rfl
   | succ n ih =>
     intro xs h
     rcases snoc_cases xs with rfl | ⟨ys,y,rfl⟩
     · rfl
     · by_cases hy:y=0
       · subst hy
         rw [trimP_snoc_zero]
         have h1:=ih ys (by simpa using h)
         have h2:(trimP ys).length≤ys.length:=by rw [h1,List.length_take];omega
         rw [List.take_append_of_le_length h2];exact h1
       · rw [trimP_snoc _ hy,List.take_length]
 exact key _ xs rfl
theorem own_take {w:World} {B:Nat} {T:TypeId} {p:Option Addr} {n c k:Nat} {xs:List Value} (h:w.ownsRow B T 1 (.slice p n c) n xs) (hp:p≠none) (hk:k≤n):w.ownsRow B T 1 (.slice p k c) k (xs.take k):=by
 obtain ⟨h1,h2⟩:=h
 refine ⟨by rw [List.length_take];omega,?_⟩
 rcases h2 with ⟨h2,_⟩ | ⟨g,cap,cur,hv,hg,hh,hnc,hm,hsz,ht⟩
 · injection h2 with h3;exact absurd h3 hp
 · injection hv with e1 e2 e3
   subst e1 e3
   exact .inr ⟨g,c,cur,rfl,hg,hh,by omega,hm,hsz,by rw [← ht,List.take_take];congr 1;omega⟩
theorem own_trim {w:World} {B:Nat} {T:TypeId} {a:Addr} {n c:Nat} {xs:List Int} (h:w.ownsRow B T 1 (.slice (some a) n c) n (iv xs)):w.ownsRow B T 1 (.slice (some a) (trimP xs).length c) (trimP xs).length (iv (trimP xs)):=by
 have hl:xs.length=n:=by have:=h.1;unfold iv at this;rw [List.length_map] at this;omega
 have h1:(trimP xs).length≤n:=by rw [trimP_take xs,List.length_take];omega
 have h2:=own_take h (by simp) h1
 have e:(iv xs).take (trimP xs).length=iv (trimP xs):=by
   unfold iv;rw [← List.map_take,← trimP_take]
 rwa [e] at h2
def RetO (w:World) (ys:List Int) (e:Ending) (w':World):Prop:=
 ∃ g c,e = .returned (.slice (some ⟨g,0,none⟩) ys.length c)∧w.heap.size≤g∧w'.ownsRow w.heap.size 3 1 (.slice (some ⟨g,0,none⟩) ys.length c) ys.length (iv ys)∧Below w.heap.size w w'
theorem trim_at (b o n c:Nat) (xs:List Int) (w:World) (hn:n=xs.length) (_hnc:n≤c) (_hc:c≤9223372036854775807)
   (hcell:∀ i,i < xs.length→w.cell? ⟨b,o+i,none⟩=some (.int .i64 (xs[i]?.getD 0))) :
   Calls Tryz.prog 136 #[.slice (some ⟨b,o,none⟩) n c] w fun e w' => e = .returned (.slice (some ⟨b,o,none⟩) (trimP xs).length c)∧w'=w:=by
 have HN:=Lib.hid hn
 have HC:=Lib.hid hcell
 clear hn hcell
 go_enter Tryz.func136,Tryz.ntmps136
 go_wp2
 go_loop [3] (fun v=>∃ k:Nat,k≤n∧v = .int .i64 k∧trimP (xs.take k)=trimP xs) (fun v=>(intOf v).toNat)
 case atStart=>exact ⟨n,Nat.le_refl _,rfl,by rw [HN.out,List.take_length]⟩
 case round =>
   obtain ⟨k,hk,rfl,ht⟩:=hrel
   have HT:=Lib.hid ht
   clear ht
   by_cases h0:k=0
   · subst h0
     go_wp2
     go_ret
     have e:trimP xs=[]:=by rw [← HT.out];rfl
     exact ⟨retSl (by rw [e];rfl),rfl⟩
   · obtain ⟨j,rfl⟩:∃ j,k=j+1:=⟨k - 1,by omega⟩
     have hjn:j < xs.length:=by have:=HN.out;omega
     have hcj:=HC.out j hjn
     have htl:=take_last (xs:=xs) (k:=j) hjn
     obtain ⟨z,hz⟩:∃ z,xs[j]?.getD 0=z:=⟨_,rfl⟩
     rw [hz] at hcj htl
     have HTL:=Lib.hid htl
     clear hz htl
     by_cases hz0:z=0
     · subst hz0
       go_wp2
       go_round
       case rel=>exact ⟨j,by omega,by go_num,by rw [← HT.out,HTL.out,trimP_snoc_zero]⟩
       case measure=>simp [intOf]
     · have hzb:(z == 0)=false:=by simpa using hz0
       go_wp2
       go_ret
       have e:trimP xs=xs.take (j+1):=by rw [← HT.out,HTL.out,trimP_snoc _ hz0]
       exact ⟨retSl (by rw [e,List.length_take];omega),rfl⟩
theorem combine_own (p q:Option Addr) (n c m d:Nat) (xs ys:List Int) (a b:Int) (w:World) (hn:n=xs.length) (hm:m=ys.length) (hnl:n≤100000) (hml:m≤100000) (hp:Has w p xs) (hq:Has w q ys)
   (ha0 : -1000000000≤a) (ha1:a≤1000000000) (hb0 : -1000000000≤b) (hb1:b≤1000000000)
   (hxs:∀ j:Nat,0≤xs[j]?.getD 0∧xs[j]?.getD 0 < 1000000000) (hys:∀ j:Nat,0≤ys[j]?.getD 0∧ys[j]?.getD 0 < 1000000000)
   (V:Nat) (hV:a*pval 1000000000 xs+b*pval 1000000000 ys=V) (hVL:V < 1000000000 ^ (max n m+1)) :
   Calls Tryz.prog 134 #[.slice p n c,.int .i64 a,.slice q m d,.int .i64 b] w (RetO w (pcM V)):=by
 have hbx:∀ (z:Int) (x:Int),-1000000000≤z→z≤1000000000→0≤x→x < 1000000000 → -1000000000000000000≤z*x∧z*x≤1000000000000000000:=fun z x h1 h2 h3 h4=>by
   have g1:=Int.mul_le_mul_of_nonneg_right h1 h3
   have g2:=Int.mul_le_mul_of_nonneg_right h2 h3
   omega
 have hL:∃ L:Nat,max n m+1=L:=⟨_,rfl⟩
 obtain ⟨L,hL⟩:=hL
 have hLi:max (n:Int) (m:Int)+1=(L:Int):=by omega
 have hmk:(Instr.makeSlice 135 (.int .i64 (L:Int)) (.int .i64 (L:Int))).run Tryz.prog w = .ok (.slice (some ⟨w.heap.size,0,none⟩) L L) (w.alloc (.cells (madeCells #[Value.int .i64 0] L) 3)):=
   make_ints _ Tryz.underlying135 L L (Nat.le_refl _) (by omega) w
 have hz:=own_zeros w L (by omega)
 have hbel:=(Below.refl w.heap.size w).alloc (Nat.le_refl _) (.cells (madeCells #[Value.int .i64 0] L) 3)
 have HN:=Lib.hid hn
 have HM:=Lib.hid hm
 have HP:=Lib.hid hp
 have HQ:=Lib.hid hq
 have HXS:=Lib.hid hxs
 have HYS:=Lib.hid hys
 have HBX:=Lib.hid hbx
 have HV:=Lib.hid hV
 have HVL:Hid (V < 1000000000 ^ L):=by show V < _;rw [← hL];exact hVL
 have HL:=Lib.hid hL
 have HZ:=Lib.hid hz
 have HBEL:=Lib.hid hbel
 have hLb:L≤200000:=by omega
 clear hn hm hp hq hxs hys hbx hV hVL hL hz hbel
 go_enter Tryz.func134,Tryz.ntmps134
 go_wp2
 go_loopw [10,21] (fun ov iv2 wr=>∃ (k:Nat) (o:Int) (out:List Int),ov = .int .i64 o∧iv2 = .int .i64 k∧CombAt a b xs ys L k o out w wr w.heap.size) (fun _ iv2 _=>L - (intOf iv2).toNat)
 case atStart=>exact ⟨0,0,[],rfl,rfl,Nat.zero_le _,col_zero _ _,by decide,by decide,HZ.out,HBEL.out⟩
 case round =>
   obtain ⟨k,o,out,rfl,rfl,hC⟩:=hrel
   have HC:=Lib.hid hC
   have hkL:=hC.le
   have ho0:=hC.lo
   have ho1:=hC.hi
   clear hC HZ HBEL
   by_cases hk:k < L
   · have hk':(k:Int) < (L:Int):=by omega
     have hx:=HXS.out k
     have hy:=HYS.out k
     obtain ⟨x,hxd⟩:∃ x,xs[k]?.getD 0=x:=⟨_,rfl⟩
     obtain ⟨y,hyd⟩:∃ y,ys[k]?.getD 0=y:=⟨_,rfl⟩
     rw [hxd] at hx
     rw [hyd] at hy
     have b1:=HBX.out a x ha0 ha1 hx.1 hx.2
     have b2:=HBX.out b y hb0 hb1 hy.1 hy.2
     obtain ⟨ax,hax⟩:∃ ax,a*x=ax:=⟨_,rfl⟩
     obtain ⟨bz,hbz⟩:∃ bz,b*y=bz:=⟨_,rfl⟩
     have a1:Calls Tryz.prog 161 #[.slice p n c,.int .i64 k] wr fun e w'' => e = .returned (.int .i64 x)∧wr=w'':=by
       have:=at_any p n c xs k wr HN.out (by omega) (by omega) (HP.out.below HC.out.bel)
       rwa [hxd] at this
     have a2:Calls Tryz.prog 161 #[.slice q m d,.int .i64 k] wr fun e w'' => e = .returned (.int .i64 y)∧wr=w'':=by
       have:=at_any q m d ys k wr HM.out (by omega) (by omega) (HQ.out.below HC.out.bel)
       rwa [hyd] at this
     have hcol:a*x+b*y=colC a b xs ys k:=by unfold colC;rw [hxd,hyd]
     have hst:=col_step (by decide:(0:Int) < 1000000000) HC.out.col
     rw [← hcol,hax,hbz] at hst
     rw [hax] at b1
     rw [hbz] at b2
     have w1:IntKind.i64.wrap (a*x)=ax:=by rw [hax];exact IntWalk.i64_in _ (by omega)
     have w2:IntKind.i64.wrap (b*y)=bz:=by rw [hbz];exact IntWalk.i64_in _ (by omega)
     have w3:IntKind.i64.wrap (ax+bz)=ax+bz:=IntWalk.i64_in _ (by omega)
     have w4:IntKind.i64.wrap (ax+bz+o)=o+(ax+bz):=by rw [show ax+bz+o=o+(ax+bz) by omega];exact IntWalk.i64_in _ (by omega)
     have c9:=cut9_any (o+(ax+bz)) wr (by omega) (by omega)
     have hlo : -4000000000≤(o+(ax+bz)) / 1000000000:=by omega
     have hhi:(o+(ax+bz)) / 1000000000≤4000000000:=by omega
     have hlen:=HC.out.col.len
     have hown:=HC.out.own
     obtain ⟨e,he⟩:∃ e,L - k=e+1:=⟨L - k - 1,by omega⟩
     have ci:wr.cell? ⟨w.heap.size,k,none⟩=some (.int .i64 0):=by
       rw [hown.cellAt k (by omega),iv,List.getElem?_map,List.getElem?_append_right (by omega),hlen,Nat.sub_self,he];rfl
     have fi:wr.frozen? ⟨w.heap.size,k,none⟩=false:=hown.frozenAt k
     have hso:=(hown.stored k (.int .i64 ((o+(ax+bz)) % 1000000000))).1
     rw [iv_set,he] at hso
     have hsn:=set_next out e ((o+(ax+bz)) % 1000000000)
     rw [hlen] at hsn
     rw [hsn,show e=L - (k+1) by omega] at hso
     have hbl:=HC.out.bel.setCell (p:=⟨w.heap.size,k,none⟩) (Nat.le_refl _) (.int .i64 ((o+(ax+bz)) % 1000000000))
     obtain ⟨qq,hqq⟩:∃ qq,(o+(ax+bz)) / 1000000000=qq:=⟨_,rfl⟩
     obtain ⟨rr,hrr⟩:∃ rr,(o+(ax+bz)) % 1000000000=rr:=⟨_,rfl⟩
     rw [hqq,hrr] at c9 hst
     rw [hqq] at hlo hhi
     rw [hrr] at hso hbl
     have A1:=Lib.hid a1
     have A2:=Lib.hid a2
     have C9:=Lib.hid c9
     have HST:=Lib.hid hst
     have HSO:=Lib.hid hso
     have HBL:=Lib.hid hbl
     clear a1 a2 c9 hst hso hbl hcol hax hbz hxd hyd hsn hown he hlen hqq hrr
     go_wp2_with (first | (go_at_call 161;first | (with_reducible refine A1.out.mono ?_;rintro e w1 ⟨rfl,rfl⟩) | (with_reducible refine A2.out.mono ?_;rintro e w1 ⟨rfl,rfl⟩)) | (go_at_call 149;refine C9.out.mono ?_;rintro e w1 ⟨rfl,rfl⟩))
     exact ⟨⟨k+1,qq,out ++ [rr],rfl,by go_num,by omega,HST.out,hlo,hhi,HSO.out,HBL.out⟩,by simp [intOf];omega⟩
   · obtain rfl:k=L:=by omega
     have hps:psum 1000000000 (colC a b xs ys) k=V:=by
       have h1:=psum_add2 1000000000 a b (fun j=>xs[j]?.getD 0) (fun j=>ys[j]?.getD 0) k
       rw [← pval_psum 1000000000 xs k (by have:=HN.out;have:=HL.out;omega),← pval_psum 1000000000 ys k (by have:=HM.out;have:=HL.out;omega),HV.out] at h1
       exact h1
     have hend:=col_end (by decide:(0:Int) < 1000000000) HC.out.col (by rw [hps];omega) (by rw [hps];exact cast_pow9 HVL.out)
     rw [hps] at hend
     have hown:=HC.out.own
     rw [Nat.sub_self,List.replicate_zero,List.append_nil] at hown
     have hlenO:=HC.out.col.len
     have hcellO:∀ i,i < out.length→wr.cell? ⟨w.heap.size,0+i,none⟩=some (.int .i64 (out[i]?.getD 0)):=fun i hi=>by
       rw [Nat.zero_add,hown.cellAt i (by omega),iv,List.getElem?_map,List.getElem?_eq_getElem hi];rfl
     have HH:=Lib.hid (trim_at w.heap.size 0 k k out wr hlenO.symm (Nat.le_refl _) (by omega) hcellO)
     have HE:Hid (trimP out=pcM V):=by show _=_;exact trim_pcM_of HC.out.col.inr V hend.2
     have HO:=Lib.hid (own_trim hown)
     have HB:=Lib.hid HC.out.bel
     clear hown hps hend hcellO hlenO
     go_wp2_with (go_at_call 136;refine HH.out.mono ?_;rintro e w1 ⟨rfl,rfl⟩)
     go_ret
     have h9:=HO.out
     rw [HE.out] at h9
     exact ⟨w.heap.size,k,retSl (by rw [HE.out]),Nat.le_refl _,h9,HB.out⟩
theorem inr_get {B:Int} (hB:0 < B) {xs:List Int} (h:Inr B xs) (j:Nat):0≤xs[j]?.getD 0∧xs[j]?.getD 0 < B:=by
 rcases e:xs[j]? with _ | z
 · exact ⟨Int.le_refl _,hB⟩
 · exact h z (List.mem_of_getElem? e)
structure RedU (pre mid post:List Int) (L C Bu:Nat) (w0 wr:World):Prop where
 own:wr.ownsRow Bu 3 1 (.slice (some ⟨Bu,0,none⟩) L C) L (iv (pre ++ mid ++ post))
 gr:w0.grownBy wr (some Bu)
section
variable {pre mid post:List Int} {L C Bu:Nat} {w0 wr:World}
theorem RedU.len (h:RedU pre mid post L C Bu w0 wr):pre.length+mid.length+post.length=L:=by
 have:=h.own.1
 rw [iv,List.length_map,List.length_append,List.length_append] at this;omega
theorem RedU.cell (h:RedU pre mid post L C Bu w0 wr) {i:Nat} (hi:i < mid.length):wr.cell? ⟨Bu,pre.length+i,none⟩=some (.int .i64 (mid[i]?.getD 0)):=by
 have hl:=h.len
 rw [h.own.cellAt (pre.length+i) (by omega),iv,List.getElem?_map,List.append_assoc,List.getElem?_append_right (by omega),Nat.add_sub_cancel_left,List.getElem?_append_left hi,List.getElem?_eq_getElem hi];rfl
theorem RedU.free (h:RedU pre mid post L C Bu w0 wr) (k:Nat):wr.frozen? ⟨Bu,k,none⟩=false:=h.own.frozenAt k
theorem RedU.put (h:RedU pre mid post L C Bu w0 wr) {i:Nat} (hi:i < mid.length) (r:Int):RedU pre (mid.set i r) post L C Bu w0 (wr.setCell ⟨Bu,pre.length+i,none⟩ (.int .i64 r)):=by
 obtain ⟨h1,h2⟩:=h.own.stored (pre.length+i) (.int .i64 r)
 rw [iv_set,List.append_assoc,List.set_append_right _ _ (by omega),Nat.add_sub_cancel_left,List.set_append_left _ _ hi,← List.append_assoc] at h1
 exact ⟨h1,⟨h2.os.trans h.gr.os,h2.tape.trans h.gr.tape,h2.output.trans h.gr.output,Nat.le_trans h.gr.size h2.size,fun k hk hne=>(h2.block k (Nat.lt_of_lt_of_le hk h.gr.size) hne).trans (h.gr.block k hk hne)⟩⟩
theorem RedU.drew (h:RedU pre mid post L C Bu w0 wr):RedU pre mid post L C Bu w0 wr.drew:=⟨h.own.drew,⟨h.gr.os,h.gr.tape,h.gr.output,h.gr.size,h.gr.block⟩⟩
theorem RedU.drews (h:RedU pre mid post L C Bu w0 wr) (n:Nat):RedU pre mid post L C Bu w0 (wr.drewN n):=⟨⟨h.own.1,h.own.2⟩,⟨h.gr.os,h.gr.tape,h.gr.output,h.gr.size,h.gr.block⟩⟩
theorem RedU.other (h:RedU pre mid post L C Bu w0 wr) {b o:Nat} {v:Value} (hne:b≠Bu) (hc:w0.cell? ⟨b,o,none⟩=some v):wr.cell? ⟨b,o,none⟩=some v:=
 h.gr.cell hc (fun e=>hne (by injection e))
end
structure SubAt (a:Int) (ms vs pre post:List Int) (L C Bu m k:Nat) (o:Int) (out:List Int) (w0 wr:World):Prop where
 le:k≤m+2
 col:ColAt 1000000000 (colC 1 a ms vs) k o out
 lo : -2000000000≤o
 hi:o≤2000000000
 red:RedU pre (out ++ ms.drop k) post L C Bu w0 wr
section
variable {a:Int} {ms vs pre post:List Int} {L C Bu m k:Nat} {o:Int} {out:List Int} {w0 wr:World}
theorem SubAt.start (h:RedU pre ms post L C Bu w0 wr):SubAt a ms vs pre post L C Bu m 0 0 [] w0 wr:=
 ⟨Nat.zero_le _,col_zero _ _,by decide,by decide,by simpa using h⟩
theorem SubAt.cell (h:SubAt a ms vs pre post L C Bu m k o out w0 wr) (hk:k < ms.length):wr.cell? ⟨Bu,pre.length+k,none⟩=some (.int .i64 (ms[k]?.getD 0)):=by
 have hl:=h.col.len
 have:=h.red.cell (i:=k) (by rw [List.length_append,List.length_drop];omega)
 rwa [List.getElem?_append_right (by omega),hl,Nat.sub_self,List.getElem?_drop,Nat.add_zero] at this
theorem mid_set {ms out:List Int} {k:Nat} (hl:out.length=k) (hk:k < ms.length) (r:Int):(out ++ ms.drop k).set k r=(out ++ [r]) ++ ms.drop (k+1):=by
 rw [List.set_append_right _ _ (by omega),hl,Nat.sub_self,(List.getElem_cons_drop hk).symm,List.set_cons_zero,List.append_assoc];rfl
theorem SubAt.step (h:SubAt a ms vs pre post L C Bu m k o out w0 wr) (hk:k < m+2) (hm:ms.length=m+3) {s:Int} (hs:s=o+colC 1 a ms vs k) (h0 : -2000000000≤s / 1000000000) (h1:s / 1000000000≤2000000000) :
   SubAt a ms vs pre post L C Bu m (k+1) (s / 1000000000) (out ++ [s % 1000000000]) w0 (wr.setCell ⟨Bu,pre.length+k,none⟩ (.int .i64 (s % 1000000000))):=by
 have hl:=h.col.len
 have hp:=h.red.put (i:=k) (by rw [List.length_append,List.length_drop];omega) (s % 1000000000)
 rw [mid_set hl (by omega)] at hp
 refine ⟨by omega,?_,h0,h1,hp⟩
 rw [hs];exact col_step (by decide) h.col
theorem SubAt.drew (h:SubAt a ms vs pre post L C Bu m k o out w0 wr):SubAt a ms vs pre post L C Bu m k o out w0 wr.drew:=⟨h.le,h.col,h.lo,h.hi,h.red.drew⟩
theorem SubAt.done (h:SubAt a ms vs pre post L C Bu m (m+2) o out w0 wr) (hm:ms.length=m+3) (hv:vs.length=m+2) :
   out.length=m+2∧Inr 1000000000 out∧pval 1000000000 out+1000000000 ^ (m+2)*o=psum 1000000000 (fun j=>ms[j]?.getD 0) (m+2)+a*pval 1000000000 vs∧RedU pre (out ++ [ms[m+2]?.getD 0]) post L C Bu w0 wr:=by
 refine ⟨h.col.len,h.col.inr,?_,?_⟩
 · rw [h.col.sum]
   have h1:=psum_add2 1000000000 1 a (fun j=>ms[j]?.getD 0) (fun j=>vs[j]?.getD 0) (m+2)
   rw [← pval_psum 1000000000 vs (m+2) (by omega),Int.one_mul] at h1
   exact h1
 · have:=h.red
   rwa [show ms.drop (m+2)=[ms[m+2]?.getD 0] by
     rw [← List.getElem_cons_drop (by omega:m+2 < ms.length),List.drop_eq_nil_of_le (by omega),List.getElem?_eq_getElem (by omega)];rfl] at this
end
theorem snoc_get {out:List Int} {n:Nat} {z:Int} (h:out.length=n):(out ++ [z])[n]?.getD 0=z:=by
 rw [List.getElem?_append_right (by omega),h,Nat.sub_self];rfl
theorem snoc_set {out:List Int} {n:Nat} {z r:Int} (h:out.length=n):(out ++ [z]).set n r=out ++ [r]:=by
 rw [List.set_append_right _ _ (by omega),h,Nat.sub_self];rfl
theorem psum_snoc {B:Int} {low:List Int} {n:Nat} {un:Int} (h:low.length=n):psum B (fun j=>(low ++ [un])[j]?.getD 0) n=pval B low:=by
 rw [pval_psum B low n (by omega)]
 exact psum_congr B n fun j hj=>by rw [List.getElem?_append_left (by omega)]
structure FixAt (U V:Int) (pre post:List Int) (L C Bu m:Nat) (t un:Int) (low:List Int) (w0 wr:World):Prop where
 ge:U / V≤t
 hi:t≤1000000000
 len:low.length=m+2
 inr:Inr 1000000000 low
 sum:pval 1000000000 low+1000000000 ^ (m+2)*un=U - t*V
 lo : -2000000000≤un
 top:un≤4000000000
 red:RedU pre (low ++ [un]) post L C Bu w0 wr
theorem reduce_any (Bu bv ov m c d L C:Nat) (pre seg post vs:List Int) (w:World)
   (hs:seg.length=m+3) (hvl:vs.length=m+2) (hml:m≤300000) (hne:bv≠Bu)
   (hu:RedU pre seg post L C Bu w w) (hcv:∀ i,i < vs.length→w.cell? ⟨bv,ov+i,none⟩=some (.int .i64 (vs[i]?.getD 0)))
   (hsi:Inr 1000000000 seg) (hvi:Inr 1000000000 vs) (hv1:1≤vs[m+1]?.getD 0) (U V:Int) (hU:pval 1000000000 seg=U) (hV:pval 1000000000 vs=V) (hlt:U < 1000000000*V) :
   Calls Tryz.prog 164 #[.slice (some ⟨Bu,pre.length,none⟩) (m+3) c,.slice (some ⟨bv,ov,none⟩) (m+2) d] w fun e w' =>
     ∃ low,e = .returned (.int .i64 (U / V))∧low.length=m+2∧Inr 1000000000 low∧pval 1000000000 low=U % V∧RedU pre (low ++ [0]) post L C Bu w w':=by
 have hf:=inr_get (by decide:(0:Int) < 1000000000) hsi
 have hg:=inr_get (by decide:(0:Int) < 1000000000) hvi
 obtain ⟨P,hP⟩:∃ P:Int,1000000000 ^ m=P:=⟨_,rfl⟩
 have hP0:0 < P:=by rw [← hP];exact Int.pow_pos (by decide)
 have eU:=pval_psum 1000000000 seg (m+3) (by omega)
 have eV:=pval_psum 1000000000 vs (m+2) (by omega)
 have eUt:U=psum 1000000000 (fun j=>seg[j]?.getD 0) (m+2)+1000000000 ^ (m+2)*seg[m+2]?.getD 0:=by rw [← hU,eU];rfl
 rw [hU,psum_top3] at eU
 rw [hV,psum_top2] at eV
 have pa:=psum_in (by decide:(0:Int) < 1000000000) hf m
 have pb:=psum_in (by decide:(0:Int) < 1000000000) hg m
 have pV:=psum_in (by decide:(0:Int) < 1000000000) hg (m+2)
 rw [← pval_psum 1000000000 vs (m+2) (by omega),hV] at pV
 rw [hP] at eU eV pa pb
 have x0:=hf (m+2)
 have x1:=hf (m+1)
 have x2:=hf m
 have y1:=hg (m+1)
 have y2:=hg m
 have cu0:=hu.cell (i:=m+2) (by omega)
 have cu1:=hu.cell (i:=m+1) (by omega)
 have cu2:=hu.cell (i:=m) (by omega)
 have cv1:=hcv (m+1) (by omega)
 have cv2:=hcv m (by omega)
 obtain ⟨u0,hu0⟩:∃ z,seg[m+2]?.getD 0=z:=⟨_,rfl⟩
 obtain ⟨u1,hu1⟩:∃ z,seg[m+1]?.getD 0=z:=⟨_,rfl⟩
 obtain ⟨u2,hu2⟩:∃ z,seg[m]?.getD 0=z:=⟨_,rfl⟩
 obtain ⟨v1,hv1e⟩:∃ z,vs[m+1]?.getD 0=z:=⟨_,rfl⟩
 obtain ⟨v2,hv2e⟩:∃ z,vs[m]?.getD 0=z:=⟨_,rfl⟩
 simp only [hu0,hu1,hu2,hv1e,hv2e] at eU eV x0 x1 x2 y1 y2 cu0 cu1 cu2 cv1 cv2 hv1 eUt
 obtain ⟨A,hA⟩:∃ z,psum 1000000000 (fun j=>seg[j]?.getD 0) m=z:=⟨_,rfl⟩
 obtain ⟨D,hD⟩:∃ z,psum 1000000000 (fun j=>vs[j]?.getD 0) m=z:=⟨_,rfl⟩
 rw [hA] at eU pa
 rw [hD] at eV pb
 obtain ⟨top,htop⟩:∃ top,u0*1000000000+u1=top:=⟨_,rfl⟩
 rw [show u1+u0*1000000000=top by omega] at eU
 have ht0:0≤top:=by omega
 have ht1:top < 1000000000000000000:=by omega
 have hV0:0 < V:=by
   have:0 < P*(v2+1000000000*v1):=Int.mul_pos hP0 (by omega)
   omega
 have hU0:0≤U:=by rw [← hU];exact pval_nonneg (by decide) hsi
 obtain ⟨Q,hQ⟩:∃ Q,U / V=Q:=⟨_,rfl⟩
 have hQ0:0≤Q:=by rw [← hQ];exact Int.ediv_nonneg hU0 (by omega)
 have hQ1:Q≤999999999:=by rw [← hQ];have:=Int.ediv_lt_of_lt_mul hV0 hlt;omega
 have hQV:Q*V≤U:=by rw [← hQ];exact Int.ediv_mul_le U (by omega)
 have est:=est_top hP0 (by decide:(0:Int) < 1000000000) pa.2 pb.1 x2.2 y2.1 eU eV hQ0 hQV
 have hQt:Q≤top / v1:=(Int.le_ediv_iff_mul_le (by omega)).2 est.1
 have stp:∀ t,Q≤t→(top - t*v1)*1000000000+u2 < t*v2→Q≤t - 1:=fun t h1 h2=>est_step hP0 (by decide:(0:Int) < 1000000000) pa.2 pb.1 x2.2 y2.1 eU eV hQ0 hQV h1 h2
 have q0:0≤top / v1:=Int.ediv_nonneg ht0 (by omega)
 have q1:top / v1≤top:=Int.ediv_le_self _ ht0
 have q2:top / v1*v1≤top:=Int.ediv_mul_le top (by omega)
 have q3:top.tdiv v1=top / v1:=Int.tdiv_eq_ediv_of_nonneg ht0
 obtain ⟨qq,hqq⟩:∃ qq,top / v1=qq:=⟨_,rfl⟩
 rw [hqq] at hQt q0 q1 q2 q3
 obtain ⟨t0,ht0e⟩:∃ t0,min qq 999999999=t0:=⟨_,rfl⟩
 have hQt0:Q≤t0:=by omega
 have ht00:0≤t0:=by omega
 have ht01:t0≤999999999:=by omega
 have ht02:t0*v1≤top:=by
   have:=Int.mul_le_mul_of_nonneg_right (show t0≤qq by omega) (show 0≤v1 by omega);omega
 have ht03:0≤t0*v1:=Int.mul_nonneg ht00 (by omega)
 have hvne:(v1 == 0)=false:=by rw [beq_eq_false_iff_ne];omega
 have w1:IntKind.i64.wrap (u0*1000000000)=u0*1000000000:=IntWalk.i64_in _ (by omega)
 have w2:IntKind.i64.wrap (u0*1000000000+u1)=top:=by rw [htop];exact IntWalk.i64_in _ (by omega)
 have w3:wrap64 qq=qq:=IntWalk.wrap64_in _ ⟨by omega,by omega⟩
 obtain ⟨pv,hpv⟩:∃ pv,t0*v1=pv:=⟨_,rfl⟩
 have w4:IntKind.i64.wrap (t0*v1)=pv:=by rw [hpv];rw [hpv] at ht02 ht03;exact IntWalk.i64_in _ (by omega)
 have w5:IntKind.i64.wrap (top - pv)=top - pv:=IntWalk.i64_in _ (by omega)
 have HSL:=Lib.hid hs
 have HVL:=Lib.hid hvl
 have HU:=Lib.hid hu
 have HCV:=Lib.hid hcv
 have HEU:=Lib.hid eUt
 have HV:=Lib.hid hV
 have HG:=Lib.hid hg
 have HQ:=Lib.hid hQ
 have HPV:=Lib.hid pV
 have HV0:=Lib.hid hV0
 have STP:=Lib.hid stp
 have HT02:=Lib.hid ht02
 have HPVE:=Lib.hid hpv
 have HNE:=Lib.hid hne
 have HSI:=Lib.hid hsi
 clear hs hvl hu hcv eU eV hU hV hf hg hlt hQ pV hV0 stp ht02 hpv hne hsi hvi pa pb hP hP0 hA hD est hQV hU0 hqq eUt q2
 go_enter Tryz.func164,Tryz.ntmps164
 go_wp2
 go_quiet (fail)
 go_upto_block 0 with fail
 go_cut [7] (fun tv wx=>∃ t:Int,tv = .int .i64 t∧Q≤t∧0≤t∧t≤999999999∧RedU pre seg post L C Bu w wx)
 case first =>
   go_wp2
   go_loopw [7,8] (fun tv rv wr=>∃ t r:Int,tv = .int .i64 t∧rv = .int .i64 r∧Q≤t∧0≤t∧t≤999999999∧0≤r∧r≤top∧r=top - t*v1∧RedU pre seg post L C Bu w wr) (fun tv _ _=>(intOf tv).toNat)
   case atStart=>exact ⟨t0,top - pv,rfl,rfl,hQt0,ht00,ht01,by have:=HT02.out;rw [HPVE.out] at this;omega,by rw [← HPVE.out];omega,by rw [HPVE.out],HU.out.drews _⟩
   case round =>
     obtain ⟨t,r,rfl,rfl,ha,hb,hc1,hr0,hr1,hre,hR⟩:=hrel
     have d1:=hR.other HNE.out (HCV.out (m+1) (by have:=HVL.out;omega))
     have d2:=hR.other HNE.out (HCV.out m (by have:=HVL.out;omega))
     have e2:=hR.cell (i:=m) (by have:=HSL.out;omega)
     rw [hv1e] at d1
     rw [hv2e] at d2
     rw [hu2] at e2
     have HR:=Lib.hid hR
     have HRE:=Lib.hid hre
     clear hR hre
     have b2:0≤t*v2:=Int.mul_nonneg hb y2.1
     have b3:t*v2≤1000000000000000000:=by
       have:=Int.mul_le_mul (show t≤1000000000 by omega) (show v2≤1000000000 by omega) y2.1 (by decide);omega
     obtain ⟨p2,hp2⟩:∃ p2,t*v2=p2:=⟨_,rfl⟩
     have z1:IntKind.i64.wrap (t*v2)=p2:=by rw [hp2];rw [hp2] at b2 b3;exact IntWalk.i64_in _ (by omega)
     rw [hp2] at b2 b3
     have HP2:=Lib.hid hp2
     clear hp2
     by_cases hr:r < 1000000000
     · have z2:IntKind.i64.wrap (r*1000000000)=r*1000000000:=IntWalk.i64_in _ (by omega)
       have z3:IntKind.i64.wrap (r*1000000000+u2)=r*1000000000+u2:=IntWalk.i64_in _ (by omega)
       by_cases hgt:r*1000000000+u2 < p2
       · have hst:=STP.out t ha (by rw [HP2.out,← HRE.out];exact hgt)
         have ht1':1≤t:=by
           rcases Int.lt_or_le 0 t with h | h
           · omega
           · have:t=0:=by omega
             have h9:=HP2.out
             rw [this,Int.zero_mul] at h9;omega
         have hge:p2 > r*1000000000+u2:=hgt
         go_wp2
         go_quiet (fail)
         go_wp2
         exact ⟨⟨t - 1,r+v1,by go_num,by go_num,hst,by omega,by omega,by omega,by have h9:=Int.mul_nonneg (show 0≤t - 1 by omega) (show 0≤v1 by omega);rw [Int.sub_mul] at h9;have:=HRE.out;omega,by rw [HRE.out,Int.sub_mul];omega,HR.out.drews _⟩,by simp [intOf];omega⟩
       · go_wp2
         go_quiet (fail)
         go_wp2
         go_meet
         exact ⟨t,rfl,ha,hb,hc1,HR.out.drews _⟩
     · have hrf:decide (r < 1000000000)=false:=decide_eq_false hr
       go_wp2
       go_quiet (fail)
       go_wp2
       go_meet
       exact ⟨t,rfl,ha,hb,hc1,HR.out.drews _⟩
 case rest =>
   obtain ⟨t,rfl,ha,hb,hc1,hR⟩:=hcut
   have HR0:=Lib.hid hR
   clear hR
   go_wp2
   go_loopw [9,73] (fun ov iv2 wr=>∃ (k:Nat) (o:Int) (out:List Int),ov = .int .i64 o∧iv2 = .int .i64 k∧SubAt (-t) seg vs pre post L C Bu m k o out w wr) (fun _ iv2 _=>m+2 - (intOf iv2).toNat)
   case atStart=>exact ⟨0,0,[],rfl,rfl,SubAt.start HR0.out⟩
   case round =>
     obtain ⟨k,o,out,rfl,rfl,hS⟩:=hrel
     have HS:=Lib.hid hS
     have hkL:=hS.le
     have ho0:=hS.lo
     have ho1:=hS.hi
     clear hS HR0
     by_cases hk:k < m+2
     · have hk':(k:Int) < (m:Int)+2:=by omega
       have hk3:(k:Int) < (m:Int)+3:=by omega
       have cu:=HS.out.cell (by have:=HSL.out;omega)
       have cv:=HS.out.red.other HNE.out (HCV.out k (by have:=HVL.out;omega))
       have hx:=inr_get (by decide:(0:Int) < 1000000000) HSI.out k
       have hy:=HG.out k
       have hcol:colC 1 (-t) seg vs k=1*seg[k]?.getD 0 + -t*vs[k]?.getD 0:=rfl
       obtain ⟨x,hxd⟩:∃ x,seg[k]?.getD 0=x:=⟨_,rfl⟩
       obtain ⟨y,hyd⟩:∃ y,vs[k]?.getD 0=y:=⟨_,rfl⟩
       rw [hxd] at hx cu
       rw [hyd] at hy cv
       rw [hxd,hyd] at hcol
       have b1:0≤t*y:=Int.mul_nonneg hb hy.1
       have b2:t*y≤1000000000000000000:=by
         have:=Int.mul_le_mul (show t≤1000000000 by omega) (show y≤1000000000 by omega) hy.1 (by decide);omega
       rw [Int.neg_mul] at hcol
       obtain ⟨ty,hty⟩:∃ ty,t*y=ty:=⟨_,rfl⟩
       have z1:IntKind.i64.wrap (t*y)=ty:=by rw [hty];rw [hty] at b1 b2;exact IntWalk.i64_in _ (by omega)
       rw [hty] at b1 b2 hcol
       obtain ⟨s,hs⟩:∃ s,x - ty+o=s:=⟨_,rfl⟩
       have z2:IntKind.i64.wrap (x - ty)=x - ty:=IntWalk.i64_in _ (by omega)
       have z3:IntKind.i64.wrap (x - ty+o)=s:=by rw [hs];exact IntWalk.i64_in _ (by omega)
       have hst:=HS.out.step hk HSL.out (s:=s) (by rw [hcol];omega) (by omega) (by omega)
       have c9:∀ w,Calls Tryz.prog 149 #[.int .i64 s] w fun e w' => e = .returned (.tuple #[.int .i64 (s / 1000000000),.int .i64 (s % 1000000000)])∧w'=w:=fun w=>(cut9_any s w (by omega) (by omega)).mono fun _ _ ⟨h1,h2⟩=>⟨h1,h2.symm⟩
       have fu:=HS.out.red.free (pre.length+k)
       obtain ⟨q9,hq9⟩:∃ q9,s / 1000000000=q9:=⟨_,rfl⟩
       obtain ⟨r9,hr9⟩:∃ r9,s % 1000000000=r9:=⟨_,rfl⟩
       rw [hq9,hr9] at hst
       simp only [hq9,hr9] at c9
       have HST:=Lib.hid hst
       have C9:=Lib.hid c9
       clear hst c9 hcol hxd hyd hty hs hq9 hr9
       go_wp2
       go_still_tail 21,(by kernel_rfl)
       still_call (C9.out _)
       repeat still_step
       refine wpStill_nil ?_
       change wpList _ _ _ _ _ wr.drew
       go_wp2
       refine ⟨?_,by simp [intOf];omega⟩
       iterate 26 apply Exists.intro
       refine ⟨⟨k+1,q9,out ++ [r9],?_,?_,HST.out.drew⟩,rfl⟩
       · rfl
       · go_num
     · obtain rfl:k=m+2:=by omega
       have hk':¬ (((m+2:Nat):Int) < (m:Int)+2):=by omega
       have hk3:(m:Int)+2 < (m:Int)+3:=by omega
       obtain ⟨hol,hoi,hsum,hR1⟩:=HS.out.done HSL.out HVL.out
       rw [hu0] at hR1
       have cu:=hR1.cell (i:=m+2) (by rw [List.length_append,hol];simp)
       rw [snoc_get hol] at cu
       have fu:=hR1.free (pre.length+(m+2))
       have hput:=hR1.put (i:=m+2) (by rw [List.length_append,hol];simp) (u0+o)
       rw [snoc_set hol] at hput
       have hfix:FixAt U V pre post L C Bu m t (u0+o) out w (wr.setCell ⟨Bu,pre.length+(m+2),none⟩ (.int .i64 (u0+o))):=
         ⟨by rw [HQ.out];exact ha,by omega,hol,hoi,by rw [Int.mul_add,HEU.out,← HV.out];rw [Int.neg_mul] at hsum;omega,by omega,by omega,hput⟩
       have z1:IntKind.i64.wrap (u0+o)=u0+o:=IntWalk.i64_in _ (by omega)
       have HFIX:=Lib.hid hfix
       clear hfix hput hR1 hol hoi hsum HS hk
       go_wp2
       go_loopw [7] (fun tv wr=>∃ (t un:Int) (low:List Int),tv = .int .i64 t∧FixAt U V pre post L C Bu m t un low w wr) (fun tv _=>(intOf tv - Q).toNat)
       case atStart=>exact ⟨t,u0+o,out,rfl,HFIX.out⟩
       case round =>
         obtain ⟨t,un,low,rfl,hX⟩:=hrel
         have cu:=hX.red.cell (i:=m+2) (by rw [List.length_append,hX.len];simp)
         rw [snoc_get hX.len] at cu
         have hun0:=hX.lo
         have hun1:=hX.top
         have htQ:=hX.ge
         have hthi:=hX.hi
         rw [HQ.out] at htQ
         have HX:=Lib.hid hX
         clear hX HFIX
         by_cases hn:un < 0
         · have htq:=red_neg HV0.out (pval_lt (by decide) HX.out.inr) (by rw [HX.out.len];exact HX.out.sum) (Int.pow_pos (by decide)) hn
           rw [HQ.out] at htq
           have HX0:=Lib.hid (SubAt.start (a:=1) (vs:=vs) (m:=m) HX.out.red)
           have z0:IntKind.i64.wrap (t - 1)=t - 1:=IntWalk.i64_in _ (by omega)
           go_wp2
           go_loopw [9,113] (fun ov iv2 wr2=>∃ (k:Nat) (o:Int) (out:List Int),ov = .int .i64 o∧iv2 = .int .i64 k∧SubAt 1 (low ++ [un]) vs pre post L C Bu m k o out w wr2) (fun _ iv2 _=>m+2 - (intOf iv2).toNat)
           case atStart=>exact ⟨0,0,[],rfl,rfl,HX0.out⟩
           case round =>
             obtain ⟨k,o,out,rfl,rfl,hS⟩:=hrel
             have HS:=Lib.hid hS
             have hkL:=hS.le
             have ho0:=hS.lo
             have ho1:=hS.hi
             have HML:Hid ((low ++ [un]).length=m+3):=Lib.hid (by rw [List.length_append,HX.out.len];rfl)
             clear hS
             by_cases hk:k < m+2
             · have hk':(k:Int) < (m:Int)+2:=by omega
               have hk3:(k:Int) < (m:Int)+3:=by omega
               have cu:=HS.out.cell (by have:=HML.out;omega)
               have cv:=HS.out.red.other HNE.out (HCV.out k (by have:=HVL.out;omega))
               have hx:=inr_get (by decide:(0:Int) < 1000000000) HX.out.inr k
               rw [← List.getElem?_append_left (l₂:=[un]) (by have:=HX.out.len;omega)] at hx
               have hy:=HG.out k
               have hcol:colC 1 1 (low ++ [un]) vs k=1*(low ++ [un])[k]?.getD 0+1*vs[k]?.getD 0:=rfl
               obtain ⟨x,hxd⟩:∃ x,(low ++ [un])[k]?.getD 0=x:=⟨_,rfl⟩
               obtain ⟨y,hyd⟩:∃ y,vs[k]?.getD 0=y:=⟨_,rfl⟩
               rw [hxd] at hx cu
               rw [hyd] at hy cv
               rw [hxd,hyd] at hcol
               obtain ⟨s,hs⟩:∃ s,x+y+o=s:=⟨_,rfl⟩
               have z2:IntKind.i64.wrap (x+y)=x+y:=IntWalk.i64_in _ (by omega)
               have z3:IntKind.i64.wrap (x+y+o)=s:=by rw [hs];exact IntWalk.i64_in _ (by omega)
               have hst:=HS.out.step hk HML.out (s:=s) (by rw [hcol];omega) (by omega) (by omega)
               have c9:∀ w,Calls Tryz.prog 149 #[.int .i64 s] w fun e w' => e = .returned (.tuple #[.int .i64 (s / 1000000000),.int .i64 (s % 1000000000)])∧w'=w:=fun w=>(cut9_any s w (by omega) (by omega)).mono fun _ _ ⟨h1,h2⟩=>⟨h1,h2.symm⟩
               have fu:=HS.out.red.free (pre.length+k)
               obtain ⟨q9,hq9⟩:∃ q9,s / 1000000000=q9:=⟨_,rfl⟩
               obtain ⟨r9,hr9⟩:∃ r9,s % 1000000000=r9:=⟨_,rfl⟩
               rw [hq9,hr9] at hst
               simp only [hq9,hr9] at c9
               have HST:=Lib.hid hst
               have C9:=Lib.hid c9
               clear hst c9 hcol hxd hyd hs hq9 hr9
               go_wp2
               go_still_tail 19,(by kernel_rfl)
               still_call (C9.out _)
               repeat still_step
               refine wpStill_nil ?_
               change wpList _ _ _ _ _ wr.drew
               go_wp2
               exact ⟨⟨k+1,q9,out ++ [r9],rfl,by go_num,HST.out.drew⟩,by simp [intOf];omega⟩
             · obtain rfl:k=m+2:=by omega
               have hk':¬ (((m+2:Nat):Int) < (m:Int)+2):=by omega
               have hk3:(m:Int)+2 < (m:Int)+3:=by omega
               obtain ⟨hol,hoi,hsum,hR1⟩:=HS.out.done HML.out HVL.out
               rw [snoc_get HX.out.len] at hR1
               rw [psum_snoc HX.out.len,HV.out,Int.one_mul] at hsum
               have ho2:0≤o:=by
                 rcases Int.lt_or_le o 0 with h | h
                 · exfalso
                   have p1:(0:Int) < 1000000000 ^ (m+2):=Int.pow_pos (by decide)
                   have p2:=pval_lt (by decide:(0:Int) < 1000000000) hoi
                   rw [hol] at p2
                   have p3:=pval_nonneg (by decide:(0:Int) < 1000000000) HX.out.inr
                   have p4:(1000000000:Int) ^ (m+2)*o≤1000000000 ^ (m+2)*(-1):=Int.mul_le_mul_of_nonneg_left (by omega) (by omega)
                   have:=HV0.out
                   omega
                 · exact h
               have cu:=hR1.cell (i:=m+2) (by rw [List.length_append,hol];simp)
               rw [snoc_get hol] at cu
               have fu:=hR1.free (pre.length+(m+2))
               have hput:=hR1.put (i:=m+2) (by rw [List.length_append,hol];simp) (un+o)
               rw [snoc_set hol] at hput
               have hfix:FixAt U V pre post L C Bu m (t - 1) (un+o) out w (wr.setCell ⟨Bu,pre.length+(m+2),none⟩ (.int .i64 (un+o))):=
                 ⟨by rw [HQ.out];exact htq,by omega,hol,hoi,by
                   rw [Int.mul_add];have:=HX.out.sum;rw [Int.sub_mul,Int.one_mul];omega,by omega,by omega,hput⟩
               have z1:IntKind.i64.wrap (un+o)=un+o:=IntWalk.i64_in _ (by omega)
               have HFIX:=Lib.hid hfix
               clear hfix hput hR1 hol hoi hsum HS hk
               go_wp2
               exact ⟨⟨t - 1,un+o,out,rfl,HFIX.out⟩,by simp [intOf];omega⟩
         · have hend:=red_end HV0.out (by have:=HPV.out;omega) (pval_nonneg (by decide) HX.out.inr) HX.out.sum HX.out.ge (by omega)
           obtain ⟨e1,rfl,e3⟩:=hend
           have HE1:=Lib.hid e1
           have HE3:=Lib.hid e3
           clear e1 e3
           go_wp2
           go_ret
           exact ⟨retI (by rw [HE1.out,HQ.out]),low,HX.out.len,HX.out.inr,HE3.out,HX.out.red⟩
end Go.Proofs.YtpiiclmkbplkhaaGreatDoor.Kl
