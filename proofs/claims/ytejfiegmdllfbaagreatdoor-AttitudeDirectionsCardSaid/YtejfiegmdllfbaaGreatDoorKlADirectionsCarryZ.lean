import Derived.Test.YtejfiegmdllfbaaGreatDoorKlADirectionsSlice
import Derived.Test.YtejfiegmdllfbaaGreatDoorKlBCarryZ
namespace Go.Proofs.YtejfiegmdllfbaaGreatDoor.Kl
open Go Go.RowKit
set_option maxRecDepth 100000
set_option maxHeartbeats 8000000
theorem pcN_isP (n:Nat):IsP 10000 (pcN n)∧pval 10000 (pcN n)=n:=by
 induction n using Nat.strongRecOn with
 | _ n ih =>
   by_cases h:n=0
   · subst h;rw [pcN,dif_pos rfl];exact ⟨⟨fun x hx=>by simp at hx,by simp⟩,rfl⟩
   · rw [pcN,dif_neg h]
     obtain ⟨⟨i1,i2⟩,i3⟩:=ih (n / 10000) (by omega)
     refine ⟨⟨fun x hx=>?_,?_⟩,?_⟩
     · rcases List.mem_cons.1 hx with rfl | hx
       · omega
       · exact i1 x hx
     · cases hr:pcN (n / 10000) with
       | nil =>
         rw [hr] at i3
         have:n / 10000=0:=by have:(0:Int)=((n / 10000:Nat):Int):=i3;omega
         intro e
         simp at e
         omega
       | cons a b=>rw [hr] at i2;rw [List.getLast?_cons_cons];exact i2
     · show ((n % 10000:Nat):Int)+10000*pval 10000 (pcN (n / 10000))=n
       rw [i3];omega
theorem eq_pcN {xs:List Int} (h:IsP 10000 xs):xs=pcN (pval 10000 xs).toNat:=by
 have h0:=pval_nonneg (by decide:(0:Int) < 10000) h.1
 obtain ⟨h1,h2⟩:=pcN_isP (pval 10000 xs).toNat
 exact isP_unique (by decide) h h1 (by rw [h2];omega)
theorem trim_pcN {xs:List Int} (h:Inr 10000 xs):trimP xs=pcN (pval 10000 xs).toNat:=by
 obtain ⟨h1,h2⟩:=trimP_isP xs.length xs rfl h
 rw [eq_pcN h1,h2]
theorem carry_neg {o:Int} (h:o < 0) (ht:o.tmod 10000 < 0):o.tmod 10000+10000=o % 10000∧(o - (o.tmod 10000+10000)).tdiv 10000=o / 10000:=by
 have e:=Int.tmod_add_mul_tdiv o 10000
 have hb : -10000 < o.tmod 10000:=by have:(o.tmod 10000).natAbs=o.natAbs % 10000:=Int.natAbs_tmod o 10000;omega
 obtain ⟨h1,h2⟩:=(Int.ediv_emod_unique (by decide:(0:Int) < 10000) (a:=o) (r:=o.tmod 10000+10000) (q:=o.tdiv 10000 - 1)).2 ⟨by omega,by omega,by omega⟩
 refine ⟨h2.symm,?_⟩
 have e2:o - (o.tmod 10000+10000)=10000*(o.tdiv 10000 - 1):=by omega
 rw [e2,Int.mul_tdiv_cancel_left _ (by decide),h1]
theorem carry_zero {o:Int} (ht:0≤o.tmod 10000):o.tmod 10000=o % 10000∧(o - o.tmod 10000).tdiv 10000=o / 10000:=by
 have e:=Int.tmod_add_mul_tdiv o 10000
 have hb:o.tmod 10000 < 10000:=by have:(o.tmod 10000).natAbs=o.natAbs % 10000:=Int.natAbs_tmod o 10000;omega
 obtain ⟨h1,h2⟩:=(Int.ediv_emod_unique (by decide:(0:Int) < 10000) (a:=o) (r:=o.tmod 10000) (q:=o.tdiv 10000)).2 ⟨by omega,by omega,by omega⟩
 refine ⟨h2.symm,?_⟩
 have e2:o - o.tmod 10000=10000*o.tdiv 10000:=by omega
 rw [e2,Int.mul_tdiv_cancel_left _ (by decide),h1]
theorem carry_div (s:Int):(s - s % 10000).tdiv 10000=s / 10000:=by
 have e:s - s % 10000=10000*(s / 10000):=by omega
 rw [e,Int.mul_tdiv_cancel_left _ (by decide)]
structure CarryAt (ps:List Int) (V:Int) (k:Nat) (o:Int) (out:List Int):Prop where
 len:out.length=k
 inr:Inr 10000 out
 sum:pval 10000 out+10000 ^ k*(o+pval 10000 (ps.drop k))=V
 lo : -1099511627776≤o
 hi:o≤1099511627776
theorem carry_step {ps:List Int} {V:Int} {k:Nat} {o x:Int} {out:List Int} (h:CarryAt ps V k o out) (hx:x=(if k < ps.length then ps[k]?.getD 0 else 0)) (hb : -1000000000000≤x∧x≤1000000000000) :
   CarryAt ps V (k+1) ((o+x) / 10000) (out ++ [(o+x) % 10000]):=by
 refine ⟨by rw [List.length_append,h.len];rfl,fun z hz=>?_,?_,by have:=h.lo;omega,by have:=h.hi;omega⟩
 · rcases List.mem_append.1 hz with hz | hz
   · exact h.inr z hz
   · obtain rfl:z=(o+x) % 10000:=by simpa using hz
     omega
 · have e:pval 10000 (ps.drop k)=x+10000*pval 10000 (ps.drop (k+1)):=by
     by_cases hk:k < ps.length
     · rw [if_pos hk,List.getElem?_eq_getElem hk] at hx
       rw [← List.getElem_cons_drop hk,hx];rfl
     · rw [if_neg hk] at hx
       rw [List.drop_eq_nil_of_le (by omega),List.drop_eq_nil_of_le (by omega),hx];rfl
   rw [pval_append,h.len,← h.sum,e]
   show pval 10000 out+10000 ^ k*((o+x) % 10000+10000*0)+10000 ^ (k+1)*((o+x) / 10000+pval 10000 (ps.drop (k+1)))=_
   generalize pval 10000 (ps.drop (k+1))=D
   have e3:(o+x) % 10000+10000*((o+x) / 10000)=o+x:=Int.emod_add_mul_ediv _ _
   rw [Int.pow_succ,Int.mul_assoc (10000 ^ k) 10000,Int.add_assoc,← Int.mul_add]
   congr 2
   omega
theorem carry_pos {ps:List Int} {V:Int} {k:Nat} {o:Int} {out:List Int} (h:CarryAt ps V k o out) (hk:ps.length≤k) (hV:0≤V):0≤o:=by
 have h1:=h.sum
 rw [List.drop_eq_nil_of_le hk] at h1
 have h2:=pval_lt (by decide:(0:Int) < 10000) h.inr
 rw [h.len] at h2
 have h1':pval 10000 out+10000 ^ k*(o+0)=V:=h1
 rw [Int.add_zero] at h1'
 by_cases ho:0≤o
 · exact ho
 · exfalso
   have h3:(10000:Int) ^ k*o≤10000 ^ k*(-1):=Int.mul_le_mul_of_nonneg_left (by omega) (Int.le_of_lt (Int.pow_pos (by decide)))
   omega
theorem carry_done {ps:List Int} {V:Int} {k:Nat} {out:List Int} (h:CarryAt ps V k 0 out) (hk:ps.length≤k):trimP out=pcN V.toNat:=by
 have h1:=h.sum
 rw [List.drop_eq_nil_of_le hk] at h1
 have h1':pval 10000 out+10000 ^ k*(0+0)=V:=h1
 rw [trim_pcN h.inr,← h1'];simp
theorem carry_some (b o n c:Nat) (ps:List Int) (V:Int) (w:World) (hn:n=ps.length) (hm:n≤1000000) (hlt:b < w.heap.size)
   (hcell:∀ i,i < ps.length→w.cell? ⟨b,o+i,none⟩=some (.int .i64 (ps[i]?.getD 0))) (hps:∀ i:Nat,-1000000000000≤ps[i]?.getD 0∧ps[i]?.getD 0≤1000000000000) (hV:pval 10000 ps=V) (hV0:0≤V) :
   Calls Tryz.prog 224 #[.slice (some ⟨b,o,none⟩) n c] w (RetP w (pcN V.toNat)):=by
 obtain ⟨i0,hi,hz0,hz1,hz2⟩:=info_parts info3
 have HN:=Lib.hid hn
 have HC:=Lib.hid hcell
 have HV:=Lib.hid hV
 have HP:=Lib.hid hps
 clear hn hcell hV hps
 go_enter Tryz.func224,Tryz.ntmps224
 go_wp2
 go_loopw [3,4,5] (fun v ov i wr=>∃ (k:Nat) (q:Int) (out:List Int),i = .int .i64 k∧ov = .int .i64 q∧(k≤n∨(k=n+1∧q≤109951162)∨(k=n+2∧q≤10995)∨(k=n+3∧q≤1)∨(k=n+4∧q≤0))∧wr.ownsRow w.heap.size 3 1 v k (iv out)∧CarryAt ps V k q out∧Below w.heap.size w wr) (fun _ ov i _=>(n - (intOf i).toNat)*1152921504606846976+(intOf ov).toNat)
 case atStart=>exact ⟨0,0,[],rfl,rfl,by omega,World.ownsRow_nil _ _ _ _,⟨rfl,fun x hx=>by simp at hx,by show 0+1*(0+pval 10000 ps)=V;rw [HV.out];omega,by decide,by decide⟩,Below.refl _ _⟩
 case round =>
   obtain ⟨k,q,out,rfl,rfl,hkn,hown,hca,hb⟩:=hrel
   have HCA:=Lib.hid hca
   have hlo:=hca.lo
   have hhi:=hca.hi
   clear hca
   by_cases hk:k < n
   · have hx:=HP.out k
     have hck:=(hb.cell (p:=⟨b,o+k,none⟩) hlt).trans (HC.out k (by have:=HN.out;omega))
     obtain ⟨x,hxe⟩:∃ x,ps[k]?.getD 0=x:=⟨_,rfl⟩
     rw [hxe] at hck hx
     have HX:=Lib.hid hxe
     clear hxe
     have hdv:=carry_div (q+x)
     have hcs:=carry_step HCA.out (x:=x) (by rw [if_pos (by have:=HN.out;omega),HX.out]) hx
     have HS:=Lib.hid hcs
     clear hcs
     by_cases hneg:(q+x).tmod 10000 < 0
     · have h0:q+x < 0:=by
         by_cases h1:q+x < 0
         · exact h1
         · have:=Int.tmod_nonneg 10000 (by omega:0≤q+x);omega
       have hrm:(q+x).tmod 10000=(q+x) % 10000 - 10000:=by have:=(carry_neg h0 hneg).1;omega
       clear hneg
       go_wp2_with (at_builtin;refine wpList_append_own _ rfl _ _ 163 rfl w.heap.size 3 i0 (.int .i64 0) 1 8 Tryz.underlying163 hi hz0 hz1 hz2 rfl (by decide) _ _ _ rfl (hown.alloc _) ⟨wr.heap.size,0,none⟩ 1 1 [.int .i64 ((q+x) % 10000)] rfl rfl ?c1 ?c2 ?c3 ?c4 ?c5 ?_)
       case c1=>exact cell_one_new _ _ _
       case c2=>simp [Value.oneCell']
       case c3=>unfold maxLen;omega
       case c4=>omega
       case c5=>simp only [World.size_alloc];have:=hb.size;omega
       intro v' w1 hown1 hgrow _
       rw [iv_snoc] at hown1
       have hb1:=(hb.alloc hb.size (Obj.cells #[Value.int IntKind.i64 ((q+x) % 10000)] 3)).grown hgrow (by simp only [World.size_alloc];have:=hb.size;omega) (own_ge3 hown)
       have HB:=Lib.hid hb1
       have HO:=Lib.hid hown1
       clear hb hown hgrow hb1 hown1
       go_wp2
       go_roundw
       case rel=>exact ⟨k+1,(q+x) / 10000,out ++ [(q+x) % 10000],by go_num,rfl,by omega,HO.out,HS.out,HB.out⟩
       case measure=>simp [intOf];omega
     · have hrm:(q+x).tmod 10000=(q+x) % 10000:=(carry_zero (by omega)).1
       clear hneg
       go_wp2_with (at_builtin;refine wpList_append_own _ rfl _ _ 163 rfl w.heap.size 3 i0 (.int .i64 0) 1 8 Tryz.underlying163 hi hz0 hz1 hz2 rfl (by decide) _ _ _ rfl (hown.alloc _) ⟨wr.heap.size,0,none⟩ 1 1 [.int .i64 ((q+x) % 10000)] rfl rfl ?c1 ?c2 ?c3 ?c4 ?c5 ?_)
       case c1=>exact cell_one_new _ _ _
       case c2=>simp [Value.oneCell']
       case c3=>unfold maxLen;omega
       case c4=>omega
       case c5=>simp only [World.size_alloc];have:=hb.size;omega
       intro v' w1 hown1 hgrow _
       rw [iv_snoc] at hown1
       have hb1:=(hb.alloc hb.size (Obj.cells #[Value.int IntKind.i64 ((q+x) % 10000)] 3)).grown hgrow (by simp only [World.size_alloc];have:=hb.size;omega) (own_ge3 hown)
       have HB:=Lib.hid hb1
       have HO:=Lib.hid hown1
       clear hb hown hgrow hb1 hown1
       go_wp2
       go_roundw
       case rel=>exact ⟨k+1,(q+x) / 10000,out ++ [(q+x) % 10000],by go_num,rfl,by omega,HO.out,HS.out,HB.out⟩
       case measure=>simp [intOf];omega
   · have hkl:ps.length≤k:=by have:=HN.out;omega
     have hq:=carry_pos HCA.out hkl hV0
     by_cases hq0:q=0
     · subst hq0
       have hlen:=HCA.out.len
       obtain ⟨p1,c1,rfl,hnc,hc1,hpn,hh⟩:=has_of_row hown hlen
       have HH:=Lib.hid (cut_any p1 k c1 out wr hlen.symm hnc hc1 hpn hh)
       have HE:=Lib.hid (carry_done HCA.out hkl)
       have HB:=Lib.hid hb
       clear hown hh hb hlen hpn
       go_wp2_with (go_at_call 223;refine HH.out.mono ?_;rintro e w1 ⟨p2,n2,c2,rfl,hr⟩;have HR:=Lib.hid hr;clear hr)
       go_ret
       have h9:=RetP.behind HB.out (⟨p2,n2,c2,rfl,HR.out⟩:RetP wr (trimP out) (.returned (.slice p2 n2 c2)) w1)
       rw [HE.out] at h9
       exact h9
     · have hqb:(q == 0)=false:=by simpa using hq0
       have hdv:=carry_div q
       have hcs:=carry_step HCA.out (x:=0) (by rw [if_neg (by omega)]) (by decide)
       rw [Int.add_zero] at hcs
       have HS:=Lib.hid hcs
       clear hcs
       go_wp2_with (at_builtin;refine wpList_append_own _ rfl _ _ 163 rfl w.heap.size 3 i0 (.int .i64 0) 1 8 Tryz.underlying163 hi hz0 hz1 hz2 rfl (by decide) _ _ _ rfl (hown.alloc _) ⟨wr.heap.size,0,none⟩ 1 1 [.int .i64 (q % 10000)] rfl rfl ?c1 ?c2 ?c3 ?c4 ?c5 ?_)
       case c1=>exact cell_one_new _ _ _
       case c2=>simp [Value.oneCell']
       case c3=>unfold maxLen;omega
       case c4=>omega
       case c5=>simp only [World.size_alloc];have:=hb.size;omega
       intro v' w1 hown1 hgrow _
       rw [iv_snoc] at hown1
       have hb1:=(hb.alloc hb.size (Obj.cells #[Value.int IntKind.i64 (q % 10000)] 3)).grown hgrow (by simp only [World.size_alloc];have:=hb.size;omega) (own_ge3 hown)
       have HB:=Lib.hid hb1
       have HO:=Lib.hid hown1
       clear hb hown hgrow hb1 hown1
       go_wp2
       go_roundw
       case rel=>exact ⟨k+1,q / 10000,out ++ [q % 10000],by go_num,rfl,by omega,HO.out,HS.out,HB.out⟩
       case measure=>simp [intOf];omega
theorem carry_none (p:Option Addr) (c:Nat) (w:World) :
   Calls Tryz.prog 224 #[.slice p 0 c] w (RetP w []):=by
 have H:=Lib.hid (cut_none none 0 (by decide) (fun _=>rfl))
 go_enter Tryz.func224,Tryz.ntmps224
 go_wp2
 refine wp_loop_rounds 1 ?_
 rw [rounds_succ]
 go_wp2_with (go_at_call 223;refine (H.out _).mono ?_;rintro e w1 ⟨p2,n2,c2,rfl,hr⟩;have HR:=Lib.hid hr;clear hr)
 go_ret
 exact ⟨p2,n2,c2,rfl,HR.out⟩
theorem carry_any (p:Option Addr) (n c:Nat) (ps:List Int) (V:Int) (w:World) (hn:n=ps.length) (hm:n≤1000000) (h:Has w p ps)
   (hps:∀ i:Nat,-1000000000000≤ps[i]?.getD 0∧ps[i]?.getD 0≤1000000000000) (hV:pval 10000 ps=V) (hV0:0≤V) :
   Calls Tryz.prog 224 #[.slice p n c] w (RetP w (pcN V.toNat)):=by
 rcases h with rfl | ⟨b,o,rfl,hlt,hcell⟩
 · obtain rfl:n=0:=hn
   obtain rfl:V=0:=hV.symm
   rw [show pcN (0:Int).toNat=[] by rw [pcN,dif_pos (by rfl)]]
   exact carry_none p c w
 · exact carry_some b o n c ps V w hn hm hlt hcell hps hV hV0
structure TakeAt (l:List UInt8) (j:Nat) (z:Int) (out:List Int):Prop where
 len:out.length=j
 inr:Inr 10000 out
 eq:z=(l.length:Int) - 4*j
 lo : -4 < z
 sum:pval 10000 out+10000 ^ j*(val (l.take z.toNat):Int)=(val l:Int)
theorem take_step {l:List UInt8} (hd:l.all isDig=true) {j:Nat} {z:Int} {out:List Int} (h:TakeAt l j z out) (hz:0 < z) (e:Nat) (he:z=e) :
   TakeAt l (j+1) (z - 4) (out ++ [(val (win l (e - 4) e):Int)])∧val (win l (e - 4) e) < 10000:=by
 have hel:e≤l.length:=by have:=h.eq;omega
 have hw:val (win l (e - 4) e) < 10000:=by
   have h1:=val_lt _ (win_dig hd (e - 4) e)
   rw [win_len l (e - 4) e hel] at h1
   have h2:10 ^ (e - (e - 4))≤10 ^ 4:=Nat.pow_le_pow_right (by decide) (by omega)
   exact Nat.lt_of_lt_of_le h1 h2
 refine ⟨⟨by rw [List.length_append,h.len];rfl,fun x hx=>?_,by rw [h.eq];omega,by omega,?_⟩,hw⟩
 · rcases List.mem_append.1 hx with hx | hx
   · exact h.inr x hx
   · obtain rfl:x=(val (win l (e - 4) e):Int):=by simpa using hx
     omega
 · have hs:=h.sum
   have e1:z.toNat=e:=by omega
   have e2:(z - 4).toNat=e - 4:=by omega
   rw [e1,val_split l (e - 4) e (by omega) hel] at hs
   rw [pval_append,h.len,e2,← hs,Int.pow_succ]
   show pval 10000 out+10000 ^ j*((val (win l (e - 4) e):Int)+10000*0)+10000 ^ j*10000*(val (l.take (e - 4)):Int)=_
   have hv:(val (l.take (e - 4))*10 ^ (e - (e - 4)):Nat)=val (l.take (e - 4))*10000:=by
     by_cases h4:4≤e
     · rw [show e - (e - 4)=4 by omega]
     · rw [show e - 4=0 by omega];simp [val,valFrom]
   rw [hv]
   generalize val (l.take (e - 4))=A
   generalize val (win l (e - 4) e)=C
   rw [Int.add_assoc,Int.mul_assoc,← Int.mul_add]
   congr 2
   omega
theorem take_any (s:ByteArray) (w:World) (hs:s.size≤100000) (hd:s.data.toList.all isDig=true) :
   Calls Tryz.prog 201 #[.string s] w (RetP w (pcN (val s.data.toList))):=by
 obtain ⟨i0,hi,hz0,hz1,hz2⟩:=info_parts info3
 have HD:=Lib.hid hd
 clear hd
 go_enter Tryz.func201,Tryz.ntmps201
 go_wp2
 go_loopw [3,4] (fun v zv wr=>∃ (j:Nat) (z:Int) (out:List Int),zv = .int .i64 z∧wr.ownsRow w.heap.size 3 1 v j (iv out)∧TakeAt s.data.toList j z out∧Below w.heap.size w wr) (fun _ zv _=>(intOf zv).toNat)
 case atStart=>exact ⟨0,s.size,[],rfl,World.ownsRow_nil _ _ _ _,⟨rfl,fun x hx=>by simp at hx,by rw [size_len];simp,by omega,by
   show 0+1*((val (s.data.toList.take ((s.size:Int)).toNat):Nat):Int)=_
   rw [Int.toNat_natCast,val_whole];omega⟩,Below.refl _ _⟩
 case round =>
   obtain ⟨j,z,out,rfl,hown,hta,hb⟩:=hrel
   have HT:=Lib.hid hta
   have hze:=hta.eq
   have hlo:=hta.lo
   rw [← size_len] at hze
   have HZE:=Lib.hid hze
   have hzhi:z≤100000:=by omega
   have hjhi:j≤100000:=by omega
   clear hta hze
   by_cases hz:0 < z
   · obtain ⟨e,he⟩:∃ e:Nat,z=e:=⟨z.toNat,by omega⟩
     subst he
     have hes:e≤s.size:=by have:=HZE.out;omega
     have hmx:max (0:Int) ((e:Int) - 4)=((e - 4:Nat):Int):=by omega
     obtain ⟨lo,hlo2⟩:∃ lo,e - 4=lo:=⟨_,rfl⟩
     rw [hlo2] at hmx
     have hle:lo≤e:=by omega
     have HLO:=Lib.hid hlo2
     clear hlo2
     go_wp2
     obtain ⟨wo,rfl⟩:∃ wo:World,wo=wr:=⟨_,rfl⟩
     go_loop [5,6] (fun nv iv2=>∃ i:Nat,lo≤i∧i≤e∧iv2 = .int .i64 i∧nv = .int .i64 (val (win s.data.toList lo i):Int)) (fun _ iv2=>e - (intOf iv2).toNat)
     case atStart=>exact ⟨lo,Nat.le_refl _,hle,rfl,by simp [win,val,valFrom]⟩
     case round =>
       obtain ⟨i,hil,hie,rfl,rfl⟩:=hrel
       have hvb:val (win s.data.toList lo i) < 10000:=by
         have h1:=val_lt _ (win_dig HD.out lo i)
         rw [win_len _ lo i (by rw [← size_len];omega)] at h1
         have h2:10 ^ (i - lo)≤10 ^ 4:=Nat.pow_le_pow_right (by decide) (by have:=HLO.out;omega)
         exact Nat.lt_of_lt_of_le h1 h2
       by_cases hlt:i < e
       · have his:i < s.size:=by omega
         have hdig:isDig s[i]=true:=List.all_eq_true.1 HD.out s[i] (List.mem_of_getElem (i:=i) (h:=by simpa using his) rfl)
         have hd1:=isDig_iff.1 hdig
         have hws:val (win s.data.toList lo (i+1))=val (win s.data.toList lo i)*10+(s[i].toNat - 48):=win_succ s lo i hil his
         have HW:=Lib.hid hws
         obtain ⟨V,hV⟩:∃ V,val (win s.data.toList lo i)=V:=⟨_,rfl⟩
         rw [hV] at hvb ⊢
         have HVV:=Lib.hid hV
         clear hws hV hdig
         go_wp2
         go_round
         case rel=>exact ⟨i+1,by omega,by omega,by go_num,by rw [HW.out,HVV.out];go_num⟩
         case measure=>simp [intOf];omega
       · obtain rfl:i=e:=by omega
         obtain ⟨V,hV⟩:∃ V,val (win s.data.toList lo i)=V:=⟨_,rfl⟩
         rw [hV] at hvb ⊢
         have hst:=(take_step HD.out HT.out hz i rfl).1
         rw [HLO.out,hV] at hst
         have HS:=Lib.hid hst
         clear hst hV
         go_wp2_with (at_builtin;refine wpList_append_own _ rfl _ _ 163 rfl w.heap.size 3 i0 (.int .i64 0) 1 8 Tryz.underlying163 hi hz0 hz1 hz2 rfl (by decide) _ _ _ rfl (hown.alloc _) ⟨wo.heap.size,0,none⟩ 1 1 [.int .i64 (V:Int)] rfl rfl ?c1 ?c2 ?c3 ?c4 ?c5 ?_)
         case c2=>simp [Value.oneCell']
         case c3=>unfold maxLen;omega
         case c4=>omega
         case c5=>have:=hb.size;omega
         intro v' w1 hown1 hgrow _
         rw [iv_snoc] at hown1
         have hb1:=(hb.alloc hb.size (Obj.cells #[Value.int IntKind.i64 (V:Int)] 3)).grown hgrow (by simp only [World.size_alloc];have:=hb.size;omega) (own_ge3 hown)
         have HB:=Lib.hid hb1
         have HO:=Lib.hid hown1
         clear hb hown hgrow hb1 hown1
         go_wp2
         go_roundw
         case rel=>exact ⟨j+1,(i:Int) - 4,out ++ [(V:Int)],rfl,HO.out,HS.out,HB.out⟩
         case measure=>simp [intOf];omega
   · have hlen:=HT.out.len
     have hval:pval 10000 out=(val s.data.toList:Int):=by
       have h1:=HT.out.sum
       rw [show z.toNat=0 by omega] at h1
       have h2:pval 10000 out+10000 ^ j*((val (s.data.toList.take 0):Nat):Int)=_:=h1
       rw [← h2];simp [val,valFrom]
     obtain ⟨p1,c1,rfl,hnc,hc1,hpn,hh⟩:=has_of_row hown hlen
     have HH:=Lib.hid (cut_any p1 j c1 out wr hlen.symm hnc hc1 hpn hh)
     have HE:Hid (trimP out=pcN (val s.data.toList)):=by show _=_;rw [trim_pcN HT.out.inr,hval];rfl
     have HB:=Lib.hid hb
     clear hown hh hb hlen hval hpn
     go_wp2_with (go_at_call 223;refine HH.out.mono ?_;rintro e w1 ⟨p2,n2,c2,rfl,hr⟩;have HR:=Lib.hid hr;clear hr)
     go_ret
     have h9:=RetP.behind HB.out (⟨p2,n2,c2,rfl,HR.out⟩:RetP wr (trimP out) (.returned (.slice p2 n2 c2)) w1)
     rw [HE.out] at h9
     exact h9
end Go.Proofs.YtejfiegmdllfbaaGreatDoor.Kl
