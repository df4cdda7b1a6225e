import Derived.Test.YtejfiegmdllfbaaGreatDoorKlADirectionsCarryZ
import Derived.Test.YtejfiegmdllfbaaGreatDoorKlBJoined
namespace Go.Proofs.YtejfiegmdllfbaaGreatDoor.Kl
open Go Go.RowKit
set_option maxRecDepth 100000
set_option maxHeartbeats 8000000
theorem psum_add (B k:Int) (f g:Nat→Int):∀ n,psum B (fun j=>f j+k*g j) n=psum B f n+k*psum B g n
 | 0=>by simp [psum]
 | n+1=>by
   show psum B (fun j=>f j+k*g j) n+B ^ n*(f n+k*g n)=psum B f n+B ^ n*f n+k*(psum B g n+B ^ n*g n)
   rw [psum_add B k f g n,Int.mul_add,Int.mul_add,Int.mul_left_comm k]
   omega
structure JoinAt (ps qs:List Int) (k:Int) (i:Nat) (out:List Int):Prop where
 lo:ps.length≤out.length
 at_:∀ j:Nat,out[j]?.getD 0=ps[j]?.getD 0+(if j < i then k*qs[j]?.getD 0 else 0)
theorem join_grow {ps qs:List Int} {k:Int} {i:Nat} {out:List Int} (h:JoinAt ps qs k i out):JoinAt ps qs k i (out ++ [0]):=by
 refine ⟨by have:=h.lo;rw [List.length_append];omega,fun j=>?_⟩
 rw [← h.at_ j]
 by_cases hj:j < out.length
 · rw [List.getElem?_append_left hj]
 · rw [List.getElem?_append_right (by omega),List.getElem?_eq_none (l:=out) (by omega)]
   cases j - out.length <;> simp
theorem join_set {ps qs:List Int} {k:Int} {i:Nat} {out:List Int} (h:JoinAt ps qs k i out) (hi:i < out.length):JoinAt ps qs k (i+1) (out.set i (out[i]?.getD 0+k*qs[i]?.getD 0)):=by
 refine ⟨by rw [List.length_set];exact h.lo,fun j=>?_⟩
 by_cases hj:j=i
 · subst hj
   rw [List.getElem?_set_self hi,if_pos (by omega),h.at_ j,if_neg (by omega)];simp
 · rw [List.getElem?_set_ne (by omega),h.at_ j]
   by_cases h2:j < i
   · rw [if_pos h2,if_pos (by omega)]
   · rw [if_neg h2,if_neg (by omega)]
theorem join_val {ps qs:List Int} {k:Int} {out:List Int} (h:JoinAt ps qs k qs.length out):pval 10000 out=pval 10000 ps+k*pval 10000 qs:=by
 have hl:=h.lo
 rw [pval_psum 10000 out (out.length+qs.length) (by omega),pval_psum 10000 ps (out.length+qs.length) (by omega),pval_psum 10000 qs (out.length+qs.length) (by omega),← psum_add]
 refine psum_congr 10000 _ (fun j _=>?_)
 rw [h.at_ j]
 by_cases hj:j < qs.length
 · rw [if_pos hj]
 · rw [if_neg hj,List.getElem?_eq_none (l:=qs) (by omega)];simp
theorem joined_some (ad:Addr) (q:Option Addr) (n c m d:Nat) (ps qs:List Int) (k:Int) (w:World) (hn:n=ps.length) (hm:m=qs.length) (hnl:n≤100000) (hml:m≤100000)
   (hp:Has w (some ad) ps) (hq:Has w q qs)
   (hk0 : -10000≤k) (hk1:k≤10000) (hps:∀ j:Nat,0≤ps[j]?.getD 0∧ps[j]?.getD 0 < 10000) (hqs:∀ j:Nat,0≤qs[j]?.getD 0∧qs[j]?.getD 0 < 10000)
   (hV0:0≤pval 10000 ps+k*pval 10000 qs) :
   Calls Tryz.prog 202 #[.slice (some ad) n c,.slice q m d,.int .i64 k,.int .i64 0] w (RetP w (pcN (pval 10000 ps+k*pval 10000 qs).toNat)):=by
 obtain ⟨i0,hi,hz0,hz1,hz2⟩:=info_parts info3
 have HN:=Lib.hid hn
 have HM:=Lib.hid hm
 have HP:=Lib.hid hp
 have HQ:=Lib.hid hq
 have HPS:=Lib.hid hps
 have HQS:=Lib.hid hqs
 have HV:=Lib.hid hV0
 clear hn hm hp hq hps hqs hV0
 have hown0:(w.alloc (.cells #[] 3)).ownsRow w.heap.size 3 1 (.slice (some ⟨w.heap.size,0,none⟩) 0 0) 0 []:=
   World.ownsRow_made w #[] 0 (Nat.le_refl _) (by decide) rfl
 go_enter Tryz.func202,Tryz.ntmps202
 go_wp2_with (at_builtin;refine wpList_append_own _ rfl _ _ 163 rfl w.heap.size 3 i0 (.int .i64 0) 1 8 Tryz.underlying163 hi hz0 hz1 hz2 rfl (by decide) _ _ _ rfl hown0 ad n c (iv ps) rfl ?hl ?hnews ?h1 ?c3 ?c4 ?c5 ?_)
 case hl=>rw [iv,List.length_map];have:=HN.out;omega
 case hnews =>
   intro j u hu
   rw [iv,List.getElem?_map] at hu
   by_cases hj:j < ps.length
   · rcases HP.out with hp | ⟨b,o,hpe,hlt,hcell⟩
     · rw [hp] at hj;simp at hj
     · injection hpe with hpe
       subst hpe
       rw [List.getElem?_eq_getElem hj] at hu
       have hc:=hcell j hj
       rw [List.getElem?_eq_getElem hj] at hc
       rw [World.cell?_alloc_lt _ _ _ (by rw [Go.WideShapes.add_plain];exact hlt),Go.WideShapes.add_plain,hc]
       exact hu
   · rw [List.getElem?_eq_none (by omega)] at hu;cases hu
 case h1=>intro u hu;simp [iv] at hu;obtain ⟨x,_,rfl⟩:=hu;simp [Value.oneCell']
 case c3=>unfold maxLen;omega
 case c4=>omega
 case c5=>simp only [World.size_alloc];omega
 intro v' w1 hown1 hgrow hnil
 have hb1:=((Below.refl w.heap.size w).alloc (Nat.le_refl _) (Obj.cells #[] 3)).grown hgrow (by simp only [World.size_alloc];omega) (own_ge3 hown0)
 have hform:∃ g cap,v' = .slice (some ⟨g,0,none⟩) n cap:=by
   rcases Joins.ownsRow_forms hown1 with ⟨h1,_⟩ | h1
   · exact absurd h1 (by simpa using hnil)
   · exact h1
 obtain ⟨g,cap,rfl⟩:=hform
 have HO:=Lib.hid hown1
 have HB:=Lib.hid hb1
 clear hown0 hown1 hgrow hb1 hnil
 go_wp2
 go_loopw [9,10] (fun v iv2 wr=>∃ (i L g cap:Nat) (out:List Int),iv2 = .int .i64 i∧v = .slice (some ⟨g,0,none⟩) L cap∧i≤m∧L=max n i∧out.length=L∧wr.ownsRow w.heap.size 3 1 (.slice (some ⟨g,0,none⟩) L cap) L (iv out)∧JoinAt ps qs k i out∧Below w.heap.size w wr) (fun _ iv2 _=>m - (intOf iv2).toNat)
 case atStart=>exact ⟨0,n,g,cap,ps,rfl,rfl,Nat.zero_le _,by omega,HN.out.symm,HO.out,⟨Nat.le_refl _,fun j=>by simp⟩,HB.out⟩
 case round =>
   obtain ⟨i,L,g2,cap2,out,rfl,rfl,him,hL,hlen,hown,hja,hb⟩:=hrel
   have HL:=Lib.hid hL
   have HLEN:=Lib.hid hlen
   have HJ:=Lib.hid hja
   have hLb:L≤200000:=by omega
   clear hL hlen hja HO HB
   by_cases hlt3:i < m
   · have hq:=HQ.out
     rcases hq with hq | ⟨b2,o2,hqe,hlt2,hcell2⟩
     · exfalso;have:=HM.out;rw [hq] at this;simp at this;omega
     subst hqe
     have HC2:=Lib.hid hcell2
     clear hcell2
     by_cases hin:i < L
     · -- there is room
       have hx:=HPS.out i
       have hy:=HQS.out i
       have hxe:out[i]?.getD 0=ps[i]?.getD 0:=by rw [HJ.out.at_ i,if_neg (by omega)];simp
       rw [← hxe] at hx
       obtain ⟨x,hxd⟩:∃ x,out[i]?.getD 0=x:=⟨_,rfl⟩
       obtain ⟨y,hyd⟩:∃ y,qs[i]?.getD 0=y:=⟨_,rfl⟩
       have ci:wr.cell? ⟨g2,i,none⟩=some (.int .i64 x):=by
         rw [hown.cellAt i (by omega),iv,List.getElem?_map,List.getElem?_eq_getElem (by have:=HLEN.out;omega),← hxd,List.getElem?_eq_getElem (by have:=HLEN.out;omega)];rfl
       have fi:wr.frozen? ⟨g2,i,none⟩=false:=hown.frozenAt i
       have cq:wr.cell? ⟨b2,o2+i,none⟩=some (.int .i64 y):=by
         rw [hb.cell (p:=⟨b2,o2+i,none⟩) hlt2,HC2.out i (by have:=HM.out;omega),hyd]
       rw [hxd] at hx
       rw [hyd] at hy
       have hky0 : -100000000≤k*y:=by
         have:=Int.mul_le_mul_of_nonneg_right hk0 hy.1;omega
       have hky1:k*y≤100000000:=by
         have:=Int.mul_le_mul_of_nonneg_right hk1 hy.1;omega
       have wi:IntKind.i64.wrap (i:Int)=i:=IntWalk.i64_in _ (by omega)
       have wk:IntKind.i64.wrap (k*y)=k*y:=IntWalk.i64_in _ (by omega)
       have wx:IntKind.i64.wrap (x+k*y)=x+k*y:=IntWalk.i64_in _ (by omega)
       have hi2:(i:Int) < (L:Int):=by omega
       have hi3:(i:Int) < (m:Int):=by omega
       have hi4:(0:Int)≤(i:Int):=by omega
       have hst:=hown.stored i (.int .i64 (x+k*y))
       have hset:(iv (out)).set i (.int .i64 (x+k*y))=iv ((out).set i (x+k*y)):=by rw [iv,iv,List.map_set]
       rw [hset] at hst
       have hjn:=join_set HJ.out (by have:=HLEN.out;omega:i < (out).length)
       rw [hxd,hyd] at hjn
       have HST:=Lib.hid hst
       have HJN:=Lib.hid hjn
       have HBW:=Lib.hid (hb.setCell (p:=⟨g2,i,none⟩) (own_ge3 hown g2 rfl) (.int .i64 (x+k*y)))
       clear hxe hxd hyd hset hst hjn hown hb
       go_wp2
       refine wp_loop_rounds 1 ?_
       rw [rounds_succ]
       go_wp2
       go_still_tail 14,(by kernel_rfl)
       change wpList _ _ _ _ _ wr.drew
       go_wp2
       go_roundw
       case rel=>exact ⟨i+1,L,g2,cap2,(out).set i (x+k*y),by go_num,rfl,by omega,by have:=HL.out;omega,by rw [List.length_set];exact HLEN.out,HST.out.1.drew,HJN.out,HBW.out.drew⟩
       case measure=>simp [intOf];omega
     · have hiL:L=i:=by have:=HL.out;omega
       have HIL:=Lib.hid hiL
       clear hiL
       have hLi:(L:Int)≤(i:Int):=by have:=HIL.out;omega
       go_wp2
       refine wp_loop_rounds 2 ?_
       rw [rounds_succ]
       go_wp2_with (at_builtin;refine wpList_append_own _ rfl _ _ 163 rfl w.heap.size 3 i0 (.int .i64 0) 1 8 Tryz.underlying163 hi hz0 hz1 hz2 rfl (by decide) _ _ _ rfl (hown.alloc _) ⟨wr.heap.size,0,none⟩ 1 1 [.int .i64 0] rfl rfl ?c1 ?c2 ?c3 ?c4 ?c5 ?_)
       case c1=>exact cell_one_new _ _ _
       case c2=>simp [Value.oneCell']
       case c3=>unfold maxLen;omega
       case c4=>omega
       case c5=>simp only [World.size_alloc];have:=hb.size;omega
       intro v3 w3 hown3 hgrow3 _
       rw [iv_snoc] at hown3
       obtain ⟨g3,cap3,rfl⟩:=Joins.ownsRow_form hown3 (by omega)
       have hb3:=(hb.alloc hb.size (Obj.cells #[Value.int IntKind.i64 0] 3)).grown hgrow3 (by simp only [World.size_alloc];have:=hb.size;omega) (own_ge3 hown)
       have HLEN3:Hid ((out ++ [0]).length=L+1):=by show _=_;rw [List.length_append,HLEN.out];rfl
       have HJ3:=Lib.hid (join_grow HJ.out)
       clear hown hgrow3 hb
       have hi1:¬ ((L+1:Nat):Int)≤(i:Int):=by have:=HIL.out;omega
       have hiL1:i < L+1:=by have:=HIL.out;omega
       have hx:=HPS.out i
       have hy:=HQS.out i
       have hxe:(out ++ [(0:Int)])[i]?.getD 0=ps[i]?.getD 0:=by rw [HJ3.out.at_ i,if_neg (by omega)];simp
       rw [← hxe] at hx
       obtain ⟨x,hxd⟩:∃ x,(out ++ [(0:Int)])[i]?.getD 0=x:=⟨_,rfl⟩
       obtain ⟨y,hyd⟩:∃ y,qs[i]?.getD 0=y:=⟨_,rfl⟩
       have ci:w3.cell? ⟨g3,i,none⟩=some (.int .i64 x):=by
         rw [hown3.cellAt i (by omega),iv,List.getElem?_map,List.getElem?_eq_getElem (by have:=HLEN3.out;omega),← hxd,List.getElem?_eq_getElem (by have:=HLEN3.out;omega)];rfl
       have fi:w3.frozen? ⟨g3,i,none⟩=false:=hown3.frozenAt i
       have cq:w3.cell? ⟨b2,o2+i,none⟩=some (.int .i64 y):=by
         rw [hb3.cell (p:=⟨b2,o2+i,none⟩) hlt2,HC2.out i (by have:=HM.out;omega),hyd]
       rw [hxd] at hx
       rw [hyd] at hy
       have hky0 : -100000000≤k*y:=by
         have:=Int.mul_le_mul_of_nonneg_right hk0 hy.1;omega
       have hky1:k*y≤100000000:=by
         have:=Int.mul_le_mul_of_nonneg_right hk1 hy.1;omega
       have wi:IntKind.i64.wrap (i:Int)=i:=IntWalk.i64_in _ (by omega)
       have wk:IntKind.i64.wrap (k*y)=k*y:=IntWalk.i64_in _ (by omega)
       have wx:IntKind.i64.wrap (x+k*y)=x+k*y:=IntWalk.i64_in _ (by omega)
       have hi2:(i:Int) < ((L+1:Nat):Int):=by omega
       have hi3:(i:Int) < (m:Int):=by omega
       have hi4:(0:Int)≤(i:Int):=by omega
       have hst:=hown3.stored i (.int .i64 (x+k*y))
       have hset:(iv ((out ++ [(0:Int)]))).set i (.int .i64 (x+k*y))=iv (((out ++ [(0:Int)])).set i (x+k*y)):=by rw [iv,iv,List.map_set]
       rw [hset] at hst
       have hjn:=join_set HJ3.out (by have:=HLEN3.out;omega:i < ((out ++ [(0:Int)])).length)
       rw [hxd,hyd] at hjn
       have HST:=Lib.hid hst
       have HJN:=Lib.hid hjn
       have HBW:=Lib.hid (hb3.setCell (p:=⟨g3,i,none⟩) (own_ge3 hown3 g3 rfl) (.int .i64 (x+k*y)))
       clear hxe hxd hyd hset hst hjn hown3 hb3
       go_wp2
       rw [rounds_succ]
       go_wp2
       go_still_tail 14,(by kernel_rfl)
       change wpList _ _ _ _ _ w3.drew
       go_wp2
       go_roundw
       case rel=>exact ⟨i+1,L+1,g3,cap3,(out ++ [(0:Int)]).set i (x+k*y),by go_num,by first | rfl | go_num,by omega,by have h1:=HL.out;have h2:=HIL.out;omega,by rw [List.length_set];exact HLEN3.out,HST.out.1.drew,HJN.out,HBW.out.drew⟩
       case measure=>simp [intOf];omega
   · have hi5:i=m:=by omega
     have hjm:JoinAt ps qs k qs.length out:=by rw [← HM.out,← hi5];exact HJ.out
     have hval:=join_val hjm
     have hbd:∀ j:Nat,-1000000000000≤out[j]?.getD 0∧out[j]?.getD 0≤1000000000000:=fun j=>by
       have h1:=HPS.out j
       have h2:=HQS.out j
       rw [hjm.at_ j]
       have h3:=Int.mul_le_mul_of_nonneg_right hk0 h2.1
       have h4:=Int.mul_le_mul_of_nonneg_right hk1 h2.1
       split <;> omega
     obtain ⟨p9,c9,hv9,hnc9,hc9,_,hh9⟩:=has_of_row hown HLEN.out
     have hpp:some (⟨g2,0,none⟩:Addr)=p9∧cap2=c9:=by injection hv9 with h1 _ h3;exact ⟨h1,h3⟩
     obtain ⟨rfl,rfl⟩:=hpp
     have HH:=Lib.hid (carry_any (some ⟨g2,0,none⟩) L cap2 out _ wr HLEN.out.symm (by omega) hh9 hbd hval HV.out)
     have HB9:=Lib.hid hb
     have HI5:=Lib.hid hi5
     clear hown hb hjm hval hbd hv9 hh9 hi5
     go_wp2_with (go_at_call 224;refine HH.out.mono ?_;rintro e w1 ⟨p2,n2,c2,rfl,hr⟩;have HR:=Lib.hid hr;clear hr)
     go_ret
     exact RetP.behind HB9.out (⟨p2,n2,c2,rfl,HR.out⟩:RetP wr _ (.returned (.slice p2 n2 c2)) _)
theorem joined_nil (q:Option Addr) (n m d:Nat) (ps qs:List Int) (k:Int) (w:World) (hn:n=ps.length) (hm:m=qs.length) (hnl:n≤100000) (hml:m≤100000)
   (hp:Has w none ps) (hq:Has w q qs)
   (hk0 : -10000≤k) (hk1:k≤10000) (hps:∀ j:Nat,0≤ps[j]?.getD 0∧ps[j]?.getD 0 < 10000) (hqs:∀ j:Nat,0≤qs[j]?.getD 0∧qs[j]?.getD 0 < 10000)
   (hV0:0≤pval 10000 ps+k*pval 10000 qs) :
   Calls Tryz.prog 202 #[.slice none 0 0,.slice q m d,.int .i64 k,.int .i64 0] w (RetP w (pcN (pval 10000 ps+k*pval 10000 qs).toNat)):=by
 obtain ⟨i0,hi,hz0,hz1,hz2⟩:=info_parts info3
 have HN:=Lib.hid hn
 have HM:=Lib.hid hm
 have HP:=Lib.hid hp
 have HQ:=Lib.hid hq
 have HPS:=Lib.hid hps
 have HQS:=Lib.hid hqs
 have HV:=Lib.hid hV0
 clear hn hm hp hq hps hqs hV0
 have hown0:(w.alloc (.cells #[] 3)).ownsRow w.heap.size 3 1 (.slice (some ⟨w.heap.size,0,none⟩) 0 0) 0 []:=
   World.ownsRow_made w #[] 0 (Nat.le_refl _) (by decide) rfl
 go_enter Tryz.func202,Tryz.ntmps202
 have N0:Hid (n=0):=by
   rcases HP.out with hp | ⟨_,_,hp,_⟩
   · have:=HN.out;rw [hp] at this;exact this
   · cases hp
 go_wp2_with (at_builtin;refine wpList_append_own_none _ rfl _ _ 163 rfl w.heap.size 3 i0 1 Tryz.underlying163 hi _ _ _ rfl hown0 rfl ?_)
 have hpe:ps=[]:=List.length_eq_zero_iff.1 (by rw [← HN.out];exact N0.out)
 have HO:Hid ((w.alloc (.cells #[] 3)).ownsRow w.heap.size 3 1 (.slice (some ⟨w.heap.size,0,none⟩) 0 0) 0 (iv ps)):=by rw [hpe];exact hown0
 have HB:=Lib.hid ((Below.refl w.heap.size w).alloc (Nat.le_refl _) (Obj.cells #[] 3))
 clear hown0 hpe
 go_wp2
 go_loopw [9,10] (fun v iv2 wr=>∃ (i L g cap:Nat) (out:List Int),iv2 = .int .i64 i∧v = .slice (some ⟨g,0,none⟩) L cap∧i≤m∧L=max n i∧out.length=L∧wr.ownsRow w.heap.size 3 1 (.slice (some ⟨g,0,none⟩) L cap) L (iv out)∧JoinAt ps qs k i out∧Below w.heap.size w wr) (fun _ iv2 _=>m - (intOf iv2).toNat)
 case atStart=>exact ⟨0,0,w.heap.size,0,ps,rfl,rfl,Nat.zero_le _,by have:=N0.out;omega,by rw [← HN.out];exact N0.out,HO.out,⟨Nat.le_refl _,fun j=>by simp⟩,HB.out⟩
 case round =>
   obtain ⟨i,L,g2,cap2,out,rfl,rfl,him,hL,hlen,hown,hja,hb⟩:=hrel
   have HL:=Lib.hid hL
   have HLEN:=Lib.hid hlen
   have HJ:=Lib.hid hja
   have hLb:L≤200000:=by omega
   clear hL hlen hja HO HB
   by_cases hlt3:i < m
   · have hq:=HQ.out
     rcases hq with hq | ⟨b2,o2,hqe,hlt2,hcell2⟩
     · exfalso;have:=HM.out;rw [hq] at this;simp at this;omega
     subst hqe
     have HC2:=Lib.hid hcell2
     clear hcell2
     by_cases hin:i < L
     · -- there is room
       have hx:=HPS.out i
       have hy:=HQS.out i
       have hxe:out[i]?.getD 0=ps[i]?.getD 0:=by rw [HJ.out.at_ i,if_neg (by omega)];simp
       rw [← hxe] at hx
       obtain ⟨x,hxd⟩:∃ x,out[i]?.getD 0=x:=⟨_,rfl⟩
       obtain ⟨y,hyd⟩:∃ y,qs[i]?.getD 0=y:=⟨_,rfl⟩
       have ci:wr.cell? ⟨g2,i,none⟩=some (.int .i64 x):=by
         rw [hown.cellAt i (by omega),iv,List.getElem?_map,List.getElem?_eq_getElem (by have:=HLEN.out;omega),← hxd,List.getElem?_eq_getElem (by have:=HLEN.out;omega)];rfl
       have fi:wr.frozen? ⟨g2,i,none⟩=false:=hown.frozenAt i
       have cq:wr.cell? ⟨b2,o2+i,none⟩=some (.int .i64 y):=by
         rw [hb.cell (p:=⟨b2,o2+i,none⟩) hlt2,HC2.out i (by have:=HM.out;omega),hyd]
       rw [hxd] at hx
       rw [hyd] at hy
       have hky0 : -100000000≤k*y:=by
         have:=Int.mul_le_mul_of_nonneg_right hk0 hy.1;omega
       have hky1:k*y≤100000000:=by
         have:=Int.mul_le_mul_of_nonneg_right hk1 hy.1;omega
       have wi:IntKind.i64.wrap (i:Int)=i:=IntWalk.i64_in _ (by omega)
       have wk:IntKind.i64.wrap (k*y)=k*y:=IntWalk.i64_in _ (by omega)
       have wx:IntKind.i64.wrap (x+k*y)=x+k*y:=IntWalk.i64_in _ (by omega)
       have hi2:(i:Int) < (L:Int):=by omega
       have hi3:(i:Int) < (m:Int):=by omega
       have hi4:(0:Int)≤(i:Int):=by omega
       have hst:=hown.stored i (.int .i64 (x+k*y))
       have hset:(iv (out)).set i (.int .i64 (x+k*y))=iv ((out).set i (x+k*y)):=by rw [iv,iv,List.map_set]
       rw [hset] at hst
       have hjn:=join_set HJ.out (by have:=HLEN.out;omega:i < (out).length)
       rw [hxd,hyd] at hjn
       have HST:=Lib.hid hst
       have HJN:=Lib.hid hjn
       have HBW:=Lib.hid (hb.setCell (p:=⟨g2,i,none⟩) (own_ge3 hown g2 rfl) (.int .i64 (x+k*y)))
       clear hxe hxd hyd hset hst hjn hown hb
       go_wp2
       refine wp_loop_rounds 1 ?_
       rw [rounds_succ]
       go_wp2
       go_still_tail 14,(by kernel_rfl)
       change wpList _ _ _ _ _ wr.drew
       go_wp2
       go_roundw
       case rel=>exact ⟨i+1,L,g2,cap2,(out).set i (x+k*y),by go_num,rfl,by omega,by have:=HL.out;omega,by rw [List.length_set];exact HLEN.out,HST.out.1.drew,HJN.out,HBW.out.drew⟩
       case measure=>simp [intOf];omega
     · have hiL:L=i:=by have:=HL.out;omega
       have HIL:=Lib.hid hiL
       clear hiL
       have hLi:(L:Int)≤(i:Int):=by have:=HIL.out;omega
       go_wp2
       refine wp_loop_rounds 2 ?_
       rw [rounds_succ]
       go_wp2_with (at_builtin;refine wpList_append_own _ rfl _ _ 163 rfl w.heap.size 3 i0 (.int .i64 0) 1 8 Tryz.underlying163 hi hz0 hz1 hz2 rfl (by decide) _ _ _ rfl (hown.alloc _) ⟨wr.heap.size,0,none⟩ 1 1 [.int .i64 0] rfl rfl ?c1 ?c2 ?c3 ?c4 ?c5 ?_)
       case c1=>exact cell_one_new _ _ _
       case c2=>simp [Value.oneCell']
       case c3=>unfold maxLen;omega
       case c4=>omega
       case c5=>simp only [World.size_alloc];have:=hb.size;omega
       intro v3 w3 hown3 hgrow3 _
       rw [iv_snoc] at hown3
       obtain ⟨g3,cap3,rfl⟩:=Joins.ownsRow_form hown3 (by omega)
       have hb3:=(hb.alloc hb.size (Obj.cells #[Value.int IntKind.i64 0] 3)).grown hgrow3 (by simp only [World.size_alloc];have:=hb.size;omega) (own_ge3 hown)
       have HLEN3:Hid ((out ++ [0]).length=L+1):=by show _=_;rw [List.length_append,HLEN.out];rfl
       have HJ3:=Lib.hid (join_grow HJ.out)
       clear hown hgrow3 hb
       have hi1:¬ ((L+1:Nat):Int)≤(i:Int):=by have:=HIL.out;omega
       have hiL1:i < L+1:=by have:=HIL.out;omega
       have hx:=HPS.out i
       have hy:=HQS.out i
       have hxe:(out ++ [(0:Int)])[i]?.getD 0=ps[i]?.getD 0:=by rw [HJ3.out.at_ i,if_neg (by omega)];simp
       rw [← hxe] at hx
       obtain ⟨x,hxd⟩:∃ x,(out ++ [(0:Int)])[i]?.getD 0=x:=⟨_,rfl⟩
       obtain ⟨y,hyd⟩:∃ y,qs[i]?.getD 0=y:=⟨_,rfl⟩
       have ci:w3.cell? ⟨g3,i,none⟩=some (.int .i64 x):=by
         rw [hown3.cellAt i (by omega),iv,List.getElem?_map,List.getElem?_eq_getElem (by have:=HLEN3.out;omega),← hxd,List.getElem?_eq_getElem (by have:=HLEN3.out;omega)];rfl
       have fi:w3.frozen? ⟨g3,i,none⟩=false:=hown3.frozenAt i
       have cq:w3.cell? ⟨b2,o2+i,none⟩=some (.int .i64 y):=by
         rw [hb3.cell (p:=⟨b2,o2+i,none⟩) hlt2,HC2.out i (by have:=HM.out;omega),hyd]
       rw [hxd] at hx
       rw [hyd] at hy
       have hky0 : -100000000≤k*y:=by
         have:=Int.mul_le_mul_of_nonneg_right hk0 hy.1;omega
       have hky1:k*y≤100000000:=by
         have:=Int.mul_le_mul_of_nonneg_right hk1 hy.1;omega
       have wi:IntKind.i64.wrap (i:Int)=i:=IntWalk.i64_in _ (by omega)
       have wk:IntKind.i64.wrap (k*y)=k*y:=IntWalk.i64_in _ (by omega)
       have wx:IntKind.i64.wrap (x+k*y)=x+k*y:=IntWalk.i64_in _ (by omega)
       have hi2:(i:Int) < ((L+1:Nat):Int):=by omega
       have hi3:(i:Int) < (m:Int):=by omega
       have hi4:(0:Int)≤(i:Int):=by omega
       have hst:=hown3.stored i (.int .i64 (x+k*y))
       have hset:(iv ((out ++ [(0:Int)]))).set i (.int .i64 (x+k*y))=iv (((out ++ [(0:Int)])).set i (x+k*y)):=by rw [iv,iv,List.map_set]
       rw [hset] at hst
       have hjn:=join_set HJ3.out (by have:=HLEN3.out;omega:i < ((out ++ [(0:Int)])).length)
       rw [hxd,hyd] at hjn
       have HST:=Lib.hid hst
       have HJN:=Lib.hid hjn
       have HBW:=Lib.hid (hb3.setCell (p:=⟨g3,i,none⟩) (own_ge3 hown3 g3 rfl) (.int .i64 (x+k*y)))
       clear hxe hxd hyd hset hst hjn hown3 hb3
       go_wp2
       rw [rounds_succ]
       go_wp2
       go_still_tail 14,(by kernel_rfl)
       change wpList _ _ _ _ _ w3.drew
       go_wp2
       go_roundw
       case rel=>exact ⟨i+1,L+1,g3,cap3,(out ++ [(0:Int)]).set i (x+k*y),by go_num,by first | rfl | go_num,by omega,by have h1:=HL.out;have h2:=HIL.out;omega,by rw [List.length_set];exact HLEN3.out,HST.out.1.drew,HJN.out,HBW.out.drew⟩
       case measure=>simp [intOf];omega
   · have hi5:i=m:=by omega
     have hjm:JoinAt ps qs k qs.length out:=by rw [← HM.out,← hi5];exact HJ.out
     have hval:=join_val hjm
     have hbd:∀ j:Nat,-1000000000000≤out[j]?.getD 0∧out[j]?.getD 0≤1000000000000:=fun j=>by
       have h1:=HPS.out j
       have h2:=HQS.out j
       rw [hjm.at_ j]
       have h3:=Int.mul_le_mul_of_nonneg_right hk0 h2.1
       have h4:=Int.mul_le_mul_of_nonneg_right hk1 h2.1
       split <;> omega
     obtain ⟨p9,c9,hv9,hnc9,hc9,_,hh9⟩:=has_of_row hown HLEN.out
     have hpp:some (⟨g2,0,none⟩:Addr)=p9∧cap2=c9:=by injection hv9 with h1 _ h3;exact ⟨h1,h3⟩
     obtain ⟨rfl,rfl⟩:=hpp
     have HH:=Lib.hid (carry_any (some ⟨g2,0,none⟩) L cap2 out _ wr HLEN.out.symm (by omega) hh9 hbd hval HV.out)
     have HB9:=Lib.hid hb
     have HI5:=Lib.hid hi5
     clear hown hb hjm hval hbd hv9 hh9 hi5
     go_wp2_with (go_at_call 224;refine HH.out.mono ?_;rintro e w1 ⟨p2,n2,c2,rfl,hr⟩;have HR:=Lib.hid hr;clear hr)
     go_ret
     exact RetP.behind HB9.out (⟨p2,n2,c2,rfl,HR.out⟩:RetP wr _ (.returned (.slice p2 n2 c2)) _)
end Go.Proofs.YtejfiegmdllfbaaGreatDoor.Kl
