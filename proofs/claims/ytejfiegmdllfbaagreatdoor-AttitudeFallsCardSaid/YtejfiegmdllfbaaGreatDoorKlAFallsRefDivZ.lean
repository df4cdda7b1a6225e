import Derived.Test.YtejfiegmdllfbaaGreatDoorKlAFallsGiveZ
import Derived.Test.YtejfiegmdllfbaaGreatDoorKlAFallsText
import Derived.Test.YtejfiegmdllfbaaGreatDoorKlBGcdIZ
namespace Go.Proofs.YtejfiegmdllfbaaGreatDoor.Kl
open Go Go.RowKit
set_option maxRecDepth 100000
set_option maxHeartbeats 8000000
theorem pcN_zero : pcN 0=[]:=by rw [pcN,dif_pos rfl]
theorem pcN_nil {N:Nat} (h:pcN N=[]):N=0:=by
 have h1:=(pcN_isP N).2
 rw [h] at h1
 have h2:(0:Int)=(N:Int):=h1
 omega
theorem pcN_in (N i:Nat):0≤(pcN N)[i]?.getD 0∧(pcN N)[i]?.getD 0 < 10000:=inr_get (by decide) (pcN_isP N).1.1 i
theorem pcN_lt (N:Nat):N < 10000 ^ (pcN N).length:=by
 have h1:=pval_lt (by decide:(0:Int) < 10000) (pcN_isP N).1.1
 rw [(pcN_isP N).2] at h1
 have:((10000 ^ (pcN N).length:Nat):Int)=(10000:Int) ^ (pcN N).length:=by rw [Int.natCast_pow];rfl
 omega
theorem sl_nil (w:World):Sl w none 0 0 0:=⟨by rw [pcN_zero];rfl,Nat.le_refl _,by omega,fun _=>rfl,Or.inl pcN_zero⟩
theorem trim_cons (x R:Nat) (hx:x < 10000):trimP ((x:Int) :: pcN R)=pcN (x+10000*R):=by
 have hi:Inr 10000 ((x:Int) :: pcN R):=fun z hz=>by
   rcases List.mem_cons.1 hz with rfl | hz
   · omega
   · exact (pcN_isP R).1.1 z hz
 rw [trim_pcN hi]
 congr 1
 show ((x:Int)+10000*pval 10000 (pcN R)).toNat=_
 rw [(pcN_isP R).2];omega
theorem cut_at (b o n c:Nat) (xs:List Int) (w:World) (hn:n=xs.length) (_hnc:n≤c) (_hc:c≤9223372036854775807)
   (hcell:∀ i,i < xs.length→w.cell? ⟨b,o+i,none⟩=some (.int .i64 (xs[i]?.getD 0))) :
   Calls Tryz.prog 223 #[.slice (some ⟨b,o,none⟩) n c] w fun e w' => e = .returned (.slice (some ⟨b,o,none⟩) (trimP xs).length c)∧w'=w:=by
 have HN:=Lib.hid hn
 have HC:=Lib.hid hcell
 clear hn hcell
 go_enter Tryz.func223,Tryz.ntmps223
 go_wp2
 go_loop [0] (fun v=>∃ k:Nat,k≤n∧v = .slice (some ⟨b,o,none⟩) k c∧trimP (xs.take k)=trimP xs) (fun v=>sliceLen v)
 case atStart=>exact ⟨n,Nat.le_refl _,rfl,by rw [HN.out,List.take_length]⟩
 case round =>
   obtain ⟨k,hk,rfl,ht⟩:=hrel
   have HT:=Lib.hid ht
   clear ht
   by_cases h0:k=0
   · subst h0
     go_wp2
     go_ret
     have e:trimP xs=[]:=by rw [← HT.out];rfl
     exact ⟨retSl (by rw [e];rfl),rfl⟩
   · obtain ⟨j,rfl⟩:∃ j,k=j+1:=⟨k - 1,by omega⟩
     have hjn:j < xs.length:=by have:=HN.out;omega
     have hcj:=HC.out j hjn
     have htl:=take_last (xs:=xs) (k:=j) hjn
     obtain ⟨z,hz⟩:∃ z,xs[j]?.getD 0=z:=⟨_,rfl⟩
     rw [hz] at hcj htl
     have HTL:=Lib.hid htl
     clear hz htl
     by_cases hz0:z=0
     · subst hz0
       go_wp2
       go_round
       case rel=>exact ⟨j,by omega,by go_num,by rw [← HT.out,HTL.out,trimP_snoc_zero]⟩
       case measure=>simp [sliceLen]
     · have hzb:(z == 0)=false:=by simpa using hz0
       go_wp2
       go_ret
       have e:trimP xs=xs.take (j+1):=by rw [← HT.out,HTL.out,trimP_snoc _ hz0]
       exact ⟨retSl (by rw [e,List.length_take];omega),rfl⟩
theorem Has.setOther {w:World} {b:Nat} {xs:List Int} (h:Has w (some ⟨b,0,none⟩) xs) {B:Nat} (hB:b≠B) (j:Nat) (v:Value):Has (w.setCell ⟨B,j,none⟩ v) (some ⟨b,0,none⟩) xs:=by
 rcases h with h | ⟨b',o,hp,hlt,hc⟩
 · exact Or.inl h
 · injection hp with hp
   injection hp with e1 e2
   subst e1 e2
   refine Or.inr ⟨b,0,rfl,by rw [World.size_setCell];exact hlt,fun i hi=>?_⟩
   rw [World.cell?_setCell_other _ _ _ _ (by intro e;exact hB (congrArg Addr.block e).symm)]
   exact hc i hi
theorem mul_lt_ten (Y:Nat) (hY:0 < Y) {M:Nat} (h:M < 10000):M*Y < 10000*Y:=(Nat.mul_lt_mul_right hY).2 h
def RetQN (w:World) (Q R:Nat) (e:Ending) (w':World):Prop:=
 ∃ (p1:Option Addr) (n1 c1:Nat) (p2:Option Addr) (n2 c2:Nat),e = .returned (.tuple #[.slice p1 n1 c1,.slice p2 n2 c2])∧Sl w' p1 n1 c1 Q∧Sl w' p2 n2 c2 R∧Below w.heap.size w w'
theorem parts_sl {p q:Option Addr} {n c m d X Y:Nat} {w:World} (h1:Sl w p n c X) (h2:Sl w q m d Y) (hX:(pcN X).length≤90000) (hY:(pcN Y).length≤90000) (hY0:0 < Y) :
   Calls Tryz.prog 200 #[.slice p n c,.slice q m d] w (RetQN w (X / Y) (X % Y)):=by
 obtain ⟨i0,hi,hi0,hi1,hi2⟩:=info_parts info3
 have hnX:n≤90000:=by rw [h1.len];exact hX
 have hmk:(Instr.makeSlice 163 (.int .i64 (n:Int)) (.int .i64 (n:Int))).run Tryz.prog w = .ok (.slice (some ⟨w.heap.size,0,none⟩) n n) (w.alloc (.cells (madeCells #[Value.int .i64 0] n) 3)):=
   make_ints _ Tryz.underlying163 n n (Nat.le_refl _) (by omega) w
 have h0:PartsAt (pcN X) Y w.heap.size n n 0 [] w (w.alloc (.cells (madeCells #[Value.int .i64 0] n) 3)):=
   ⟨Nat.le_refl _,by simp,fun x hx=>by simp at hx,by rw [h1.len,List.drop_length];simp [pval],hY0,by rw [List.append_nil];exact own_zeros w n (by omega),(Below.refl w.heap.size w).alloc (Nat.le_refl _) _⟩
 have hlt9:∀ T,T < 10000*Y→(pcN T).length≤90001:=fun T hT=>by
   refine Nat.le_trans (pcN_len T ((pcN Y).length+1) ?_) (Nat.succ_le_succ hY)
   have:=pcN_lt Y
   rw [Nat.pow_succ];omega
 have HP0:=Lib.hid h0
 have H1:=Lib.hid h1
 have H2:=Lib.hid h2
 have HLT:=Lib.hid hlt9
 have HYL:Hid ((pcN Y).length≤100000):=Lib.hid (by omega)
 clear h0 h1 h2 hlt9 hX hY
 go_enter Tryz.func200,Tryz.ntmps200
 go_wp2
 go_loopw [7,8] (fun rv jv wr=>∃ (j R:Nat) (outs:List Int) (pr:Option Addr) (nr cr:Nat),rv = .slice pr nr cr∧jv = .int .i64 ((j:Int) - 1)∧PartsAt (pcN X) Y w.heap.size n j R outs w wr∧Sl wr pr nr cr R) (fun _ jv _=>(intOf jv+1).toNat)
 case atStart=>exact ⟨n,0,[],none,0,0,rfl,by go_num,HP0.out,sl_nil _⟩
 case round =>
   obtain ⟨j,R,outs,pr,nr,cr,rfl,rfl,hP,hR⟩:=hrel
   have HP:=Lib.hid hP
   have HR:=Lib.hid hR
   have hjn:=hP.le
   have hRY:=hP.lt
   clear hP hR HP0
   by_cases hj0:j=0
   · subst hj0
     have hsum:=HP.out.sum
     rw [List.drop_zero,(pcN_isP X).2] at hsum
     have hue:=(Int.ediv_emod_unique (by omega:(0:Int) < (Y:Int)) (a:=(X:Int)) (r:=(R:Int)) (q:=pval 10000 outs)).2 ⟨by rw [hsum];omega,by omega,by omega⟩
     rw [← Int.natCast_ediv,← Int.natCast_emod] at hue
     have e1:trimP outs=pcN (X / Y):=by rw [trim_pcN HP.out.inr,← hue.1];rfl
     have e2:R=X % Y:=by omega
     have hqo:=HP.out.own
     rw [List.replicate_zero,List.nil_append] at hqo
     have hl:outs.length=n:=by rw [HP.out.len];rfl
     obtain ⟨p1,c1,hv1,hnc,hc1,hpn,hh⟩:=has_of_row hqo hl
     have hpp:some (⟨w.heap.size,0,none⟩:Addr)=p1∧n=c1:=by injection hv1 with h1 _ h3;exact ⟨h1,h3⟩
     obtain ⟨rfl,rfl⟩:=hpp
     have ht:=cut_any (some ⟨w.heap.size,0,none⟩) n n outs wr hl.symm hnc hc1 hpn hh
     rw [e1] at ht
     have HT:=Lib.hid ht
     have HB:=Lib.hid HP.out.bel
     subst e2
     clear hsum hue e1 hqo hl hh ht hv1
     go_wp2_with (go_at_call 223;refine HT.out.mono ?_;rintro e w4 ⟨p4,n4,c4,rfl,hr4⟩;have HR4:=Lib.hid hr4;clear hr4)
     go_ret2
     have h4:=HR4.out
     exact ⟨p4,n4,c4,pr,nr,cr,rfl,⟨h4.1,h4.2.1,h4.2.2.1,h4.2.2.2.1,h4.2.2.2.2.1⟩,HR.out.below h4.2.2.2.2.2,HB.out.trans (h4.2.2.2.2.2.mono HB.out.size)⟩
   · obtain ⟨k,rfl⟩:∃ k,j=k+1:=⟨j - 1,by omega⟩
     rw [show ((k+1:Nat):Int) - 1=(k:Int) by omega]
     have hkn:k < n:=by omega
     have hx:=pcN_in X k
     obtain ⟨x,hxe⟩:∃ x:Nat,(pcN X)[k]?.getD 0=(x:Int):=⟨((pcN X)[k]?.getD 0).toNat,by omega⟩
     have hdr:(pcN X).drop k=(x:Int) :: (pcN X).drop (k+1):=by rw [drop_cons (by have:=H1.out.len;omega),hxe]
     have hpx:∃ bx ox,p=some ⟨bx,ox,none⟩∧wr.cell? ⟨bx,ox+k,none⟩=some (.int .i64 (x:Int)):=by
       rcases H1.out.has with h | ⟨bx,ox,hp,hlt,hc⟩
       · have:=H1.out.len;rw [h] at this;rw [this] at hkn;exact absurd hkn (Nat.not_lt_zero _)
       · refine ⟨bx,ox,hp,?_⟩
         rw [HP.out.bel.cell (p:=⟨bx,ox+k,none⟩) hlt,hc k (by have:=H1.out.len;omega),hxe]
     obtain ⟨bx,ox,rfl,hcx⟩:=hpx
     rw [hxe] at hx
     have hx1:x < 10000:=by omega
     obtain ⟨T,hT⟩:∃ T,x+10000*R=T:=⟨_,rfl⟩
     have hTY:T < 10000*Y:=by omega
     have HTL:=Lib.hid (HLT.out T hTY)
     have HNR:Hid (nr≤90001):=Lib.hid (by rw [HR.out.len];exact HLT.out R (by omega))
     have HDR:=Lib.hid hdr
     have HT:=Lib.hid hT
     have hk9:(k:Int) < (n:Int):=by omega
     clear hdr hT hx hxe
     have hlit:=World.ownsRow_lit (base:=wr.heap.size) (e:=3) (size:=1) wr #[Value.int .i64 (x:Int)] 1 (Nat.le_refl _) (by decide) rfl
     have hbl:=(Below.refl wr.heap.size wr).alloc (Nat.le_refl _) (Obj.cells #[Value.int .i64 (x:Int)] 3)
     have htc:=trim_cons x R hx1
     rw [HT.out] at htc
     have HTC:=Lib.hid htc
     have HLIT:=Lib.hid hlit
     have HBL:=Lib.hid hbl
     clear htc hlit hbl
     go_upto_region 6 with fail
     go_cut [7] (fun v wx=>∃ (b' n' c':Nat),v = .slice (some ⟨b',0,none⟩) n' c'∧wr.heap.size≤b'∧Sl wx (some ⟨b',0,none⟩) n' c' T∧Below wr.heap.size wr wx)
     case first =>
       rcases pr with _ | ad
       · have hc0:=HR.out.nil rfl
         have hR0:pcN R=[]:=by
           rcases HR.out.has with h | ⟨_,_,h,_⟩
           · exact h
           · cases h
         have hn0:=HR.out.len
         rw [hR0] at hn0
         have hn0':nr=0:=hn0
         subst hn0' hc0
         have htc:=HTC.out
         rw [hR0] at htc
         have hlen1:=congrArg List.length htc
         have hct:=cut_at wr.heap.size 0 1 1 [(x:Int)] (wr.alloc (.cells #[.int .i64 (x:Int)] 3)) rfl (Nat.le_refl _) (by omega) (fun i hi=>by
           obtain rfl:i=0:=by simpa using hi
           rw [World.cell?_alloc_new];rfl)
         have hll:(trimP [(x:Int)]).length≤1:=by rw [trimP_take,List.length_take];exact Nat.min_le_right _ _
         have hh:Has (wr.alloc (.cells #[.int .i64 (x:Int)] 3)) (some ⟨wr.heap.size,0,none⟩) (pcN T):=by
           rw [← htc,trimP_take]
           refine Has.take (Or.inr ⟨wr.heap.size,0,rfl,by simp,fun i hi=>?_⟩) _
           obtain rfl:i=0:=by simpa using hi
           rw [World.cell?_alloc_new];rfl
         rw [htc] at hct hll
         have HCT:=Lib.hid hct
         have HH:=Lib.hid hh
         clear hct hh htc hR0 hn0 hjn hRY hTY hlen1
         go_wp2_with (first | (at_builtin;refine wpList_append_own_none _ rfl _ _ 163 rfl wr.heap.size 3 i0 1 Tryz.underlying163 hi _ _ _ rfl HLIT.out rfl ?_) | (go_at_call 223;refine HCT.out.mono ?_;rintro e w4 ⟨rfl,rfl⟩))
         go_meet
         exact ⟨wr.heap.size,_,1,rfl,Nat.le_refl _,⟨rfl,hll,by omega,(fun h=>by cases h),HH.out⟩,HBL.out⟩
       · go_wp2_with (at_builtin;refine wpList_append_own _ rfl _ _ 163 rfl wr.heap.size 3 i0 (.int .i64 0) 1 8 Tryz.underlying163 hi hi0 hi1 hi2 rfl (by decide) _ _ _ rfl HLIT.out ad nr cr (iv (pcN R)) rfl ?hl ?hnews ?h1 ?c3 ?c4 ?c5 ?_)
         case hl=>rw [iv,List.length_map];exact HR.out.len.symm
         case hnews =>
           intro j u hu
           rw [iv,List.getElem?_map] at hu
           by_cases hj:j < (pcN R).length
           · rcases HR.out.has with hp | ⟨b,o,hpe,hlt,hcell⟩
             · rw [hp] at hj;simp at hj
             · injection hpe with hpe
               subst hpe
               rw [List.getElem?_eq_getElem hj] at hu
               have hc:=hcell j hj
               rw [List.getElem?_eq_getElem hj] at hc
               rw [World.cell?_alloc_lt _ _ _ (by rw [Go.WideShapes.add_plain];exact hlt),Go.WideShapes.add_plain,hc]
               exact hu
           · rw [List.getElem?_eq_none (by omega)] at hu;cases hu
         case h1=>intro u hu;simp [iv] at hu;obtain ⟨x,_,rfl⟩:=hu;simp [Value.oneCell']
         case c3=>have:=HR.out.len;have:=HNR.out;unfold maxLen;omega
         case c4=>have:=HNR.out;omega
         intro v' w1 hown1 hgrow hnil
         have hown2:w1.ownsRow wr.heap.size 3 1 v' (1+nr) (iv ((x:Int) :: pcN R)):=hown1
         have hb1:=HBL.out.grown hgrow (by simp only [World.size_alloc];omega) (own_ge3 HLIT.out)
         have hl1:((x:Int) :: pcN R).length=1+nr:=by rw [List.length_cons,HR.out.len];omega
         obtain ⟨g1,c1,rfl,hg1,hnc,hc1⟩:∃ g1 c1,v' = .slice (some ⟨g1,0,none⟩) (1+nr) c1∧wr.heap.size≤g1∧1+nr≤c1∧c1≤9223372036854775807:=by
           rcases hown2.2 with ⟨_,h0⟩ | ⟨g,cap,cur,hv,hg,_,hnc,hm,_⟩
           · omega
           · exact ⟨g,cap,hv,hg,hnc,by unfold maxLen at hm;omega⟩
         have hcell:∀ i,i < ((x:Int) :: pcN R).length→w1.cell? ⟨g1,0+i,none⟩=some (.int .i64 (((x:Int) :: pcN R)[i]?.getD 0)):=fun i hi=>by
           rw [Nat.zero_add,hown2.cellAt i (by omega),iv,List.getElem?_map,List.getElem?_eq_getElem hi];rfl
         have hct:=cut_at g1 0 (1+nr) c1 ((x:Int) :: pcN R) w1 hl1.symm hnc hc1 hcell
         have hll:(trimP ((x:Int) :: pcN R)).length≤1+nr:=by rw [trimP_take,List.length_take,hl1];exact Nat.min_le_right _ _
         have hh:Has w1 (some ⟨g1,0,none⟩) (pcN T):=by
           rw [← HTC.out,trimP_take]
           exact Has.take (Or.inr ⟨g1,0,rfl,(hown2.lt g1 rfl).2,hcell⟩) _
         rw [HTC.out] at hct hll
         have HCT:=Lib.hid hct
         have HH:=Lib.hid hh
         have HB1:=Lib.hid hb1
         clear hct hh hown1 hown2 hgrow hb1 hl1 hjn hRY hTY hcell
         go_wp2_with (go_at_call 223;refine HCT.out.mono ?_;rintro e w4 ⟨rfl,rfl⟩)
         go_meet
         exact ⟨g1,_,c1,rfl,hg1,⟨rfl,by omega,hc1,(fun h=>by cases h),HH.out⟩,HB1.out⟩
     case rest =>
       obtain ⟨b',n',c',rfl,hb'1,hS,hb⟩:=hcut
       have HS:=Lib.hid hS
       have HB:=Lib.hid hb
       have hgq:=(HP.out.own.lt w.heap.size rfl).2
       clear hS hb HLIT HBL HTC
       go_wp2
       go_loopw [9,10] (fun lv hv wz=>∃ lo hi':Nat,lv = .int .i64 lo∧hv = .int .i64 hi'∧lo≤hi'∧hi'≤9999∧lo*Y≤T∧T < (hi'+1)*Y∧Below wc.heap.size wc wz) (fun lv hv _=>(intOf hv - intOf lv).toNat)
       case atStart=>exact ⟨0,9999,rfl,rfl,by omega,by omega,by omega,hTY,Below.refl _ _⟩
       case round =>
         obtain ⟨lo,hi',rfl,rfl,hlh,hh9,hlo,hhi,hbz⟩:=hrel
         have HLO:=Lib.hid hlo
         have HHI:=Lib.hid hhi
         clear hlo hhi
         by_cases hlt:lo < hi'
         · have hlt':(lo:Int) < (hi':Int):=by omega
           obtain ⟨M,hM⟩:∃ M,(lo+hi'+1) / 2=M:=⟨_,rfl⟩
           have hM1:lo < M:=by omega
           have hM2:M≤hi':=by omega
           have hMY:M*Y < 10000*Y:=mul_lt_ten Y hY0 (show M < 10000 by omega)
           have hk0:(-10000:Int)≤(M:Int):=by omega
           have hk1:(M:Int)≤10000:=by omega
           have cj:=joined_sl (w:=wr) (sl_nil wr) (H2.out.below (HP.out.bel.trans ((HB.out.mono HP.out.bel.size).trans (hbz.mono (Nat.le_trans HP.out.bel.size HB.out.size))))) (by rw [pcN_zero];decide) HYL.out (M:Int) hk0 hk1 (M*Y) (by rw [Int.natCast_mul];simp)
           have hMl:(pcN (M*Y)).length≤100000:=by have:=HLT.out _ hMY;omega
           have hTl:(pcN T).length≤100000:=by have:=HTL.out;omega
           obtain ⟨A1,hA1⟩:∃ A1:Nat,lo+hi'=A1:=⟨_,rfl⟩
           obtain ⟨S1,hS1⟩:∃ S1:Nat,A1+1=S1:=⟨_,rfl⟩
           have z1:IntKind.i64.wrap ((lo:Int)+(hi':Int))=(A1:Int):=by rw [← hA1,Int.natCast_add];exact IntWalk.i64_in _ (by omega)
           have z2:IntKind.i64.wrap ((A1:Int)+1)=(S1:Int):=by rw [← hS1,Int.natCast_add];exact IntWalk.i64_in _ (by omega)
           have z3:(S1:Int).tdiv 2=(M:Int):=by rw [Int.tdiv_eq_ediv_of_nonneg (by omega)];omega
           have CJ:=Lib.hid cj
           have HML:=Lib.hid hMl
           have HTl:=Lib.hid hTl
           have HSz:=Lib.hid (HS.out.below hbz)
           have HBZ:=Lib.hid hbz
           clear cj hMl hTl hM hMY hbz hk0 hk1 hTY hRY hA1 hS1
           by_cases hle:T < M*Y
           · have hdl:=decide_eq_true hle
             have HLE:=Lib.hid hle
             have hnew:T < (M - 1+1)*Y:=by rw [Nat.sub_add_cancel (Nat.lt_of_le_of_lt (Nat.zero_le _) hM1)];exact hle
             have HNEW:=Lib.hid hnew
             clear hnew hle
             go_wp2_with (first | (go_at_call 202;refine (chainR HBZ.out CJ.out).mono ?_;rintro e w5 ⟨p5,n5,c5,rfl,hs5,hl5,hb5⟩;have HS5:=Lib.hid hs5;have HL5:=Lib.hid hl5;have HB5:=Lib.hid hb5;clear hs5 hl5 hb5) | (go_at_call 221;refine (chain HB5.out (less_sl (HSz.out.below HL5.out) HS5.out HTl.out HML.out true hdl)).mono ?_;rintro e w6 ⟨rfl,hb6⟩))
             clear z1 z2 z3
             exact ⟨⟨lo,M - 1,rfl,by go_num,by omega,by omega,HLO.out,HNEW.out,hb6⟩,by simp [intOf];omega⟩
           · have hdl:=decide_eq_false hle
             have HLE:=Lib.hid (Nat.le_of_not_lt hle)
             clear hle
             go_wp2_with (first | (go_at_call 202;refine (chainR HBZ.out CJ.out).mono ?_;rintro e w5 ⟨p5,n5,c5,rfl,hs5,hl5,hb5⟩;have HS5:=Lib.hid hs5;have HL5:=Lib.hid hl5;have HB5:=Lib.hid hb5;clear hs5 hl5 hb5) | (go_at_call 221;refine (chain HB5.out (less_sl (HSz.out.below HL5.out) HS5.out HTl.out HML.out false hdl)).mono ?_;rintro e w6 ⟨rfl,hb6⟩))
             clear z1 z2 z3
             exact ⟨⟨M,hi',rfl,rfl,by omega,by omega,HLE.out,HHI.out,hb6⟩,by simp [intOf];omega⟩
         · obtain rfl:lo=hi':=by omega
           have hD:T / Y=lo:=Nat.div_eq_of_lt_le HLO.out HHI.out
           have hbw:=HB.out.trans (hbz.mono HB.out.size)
           have hPz:=HP.out.below hbw
           have hnx:=(hPz.next x lo T HDR.out hx1 HT.out.symm hD.symm).2
           have cq:wr.cell? ⟨w.heap.size,k,none⟩=some (.int .i64 0):=by
             rw [hPz.own.cellAt k (by omega),iv,List.getElem?_map,List.getElem?_append_left (by simp),List.getElem?_eq_getElem (by simp),List.getElem_replicate];rfl
           have fq:=hPz.own.frozenAt k
           have hsz:Sl (wr.setCell ⟨w.heap.size,k,none⟩ (.int .i64 (lo:Int))) (some ⟨b',0,none⟩) n' c' T:=
             ⟨HS.out.len,HS.out.cap,HS.out.top,HS.out.nil,(HS.out.has.below hbz).setOther (by omega) _ _⟩
           have hm9:=Nat.mod_add_div T Y
           rw [hD] at hm9
           have cj:=joined_sl (w:=wr.setCell ⟨w.heap.size,k,none⟩ (.int .i64 (lo:Int))) hsz (H2.out.below hnx.bel) (by have:=HTL.out;omega) HYL.out (-(lo:Int)) (by omega) (by omega) (T % Y) (by
             rw [Int.neg_mul]
             have e:((Y*lo:Nat):Int)=(lo:Int)*(Y:Int):=by rw [Int.natCast_mul,Int.mul_comm]
             omega)
           have z1:IntKind.i64.wrap (-(lo:Int)) = -(lo:Int):=IntWalk.i64_in _ (by omega)
           have CJ:=Lib.hid cj
           have HNX:=Lib.hid hnx
           clear cj hsz hPz hnx hm9 hD hTY hRY hbz hbw
           go_wp2_with (go_at_call 202;refine CJ.out.mono ?_;rintro e w5 ⟨p5,n5,c5,rfl,hr5⟩;have HR5:=Lib.hid hr5;clear hr5)
           have h5:=HR5.out
           exact ⟨⟨k,T % Y,_,p5,n5,c5,rfl,by go_num,HNX.out.below h5.2.2.2.2.2,⟨h5.1,h5.2.1,h5.2.2.1,h5.2.2.2.1,h5.2.2.2.2.1⟩⟩,by simp [intOf]⟩
theorem sgI_dec (x:Int):sgI (decide (x < 0)) x.natAbs=x:=by
 by_cases h:x < 0
 · rw [decide_eq_true h,sgI_t];omega
 · rw [decide_eq_false h,sgI_f];omega
theorem sgn_sgI {b:Bool} {N:Nat} {z:Int} (h:sgI b N=z):strOf (sgn b N)=itoaB z:=by
 unfold itoaB
 rw [sgn_of z b N (sgI_abs h) (fun h0=>by
   cases b
   · rw [sgI_f] at h;exact (decide_eq_false (by omega)).symm
   · rw [sgI_t] at h;exact (decide_eq_true (by omega)).symm)]
theorem retSS {a b c d:ByteArray} (h:a=b) (g:c=d):Ending.returned (.tuple #[.string a,.string c]) = .returned (.tuple #[.string b,.string d]):=by rw [h,g]
theorem chainRQ {P:Program} {K:FuncId} {args:Array Value} {w w0:World} {Q R:Nat} (hb:Below w0.heap.size w0 w) (h:Calls P K args w (RetQN w Q R)) :
   Calls P K args w fun e w' => ∃ p1 n1 c1 p2 n2 c2,e = .returned (.tuple #[.slice p1 n1 c1,.slice p2 n2 c2])∧Hid (Sl w' p1 n1 c1 Q∧Sl w' p2 n2 c2 R∧Below w.heap.size w w')∧Below w0.heap.size w0 w':=
 h.mono fun _ _ ⟨p1,n1,c1,p2,n2,c2,e,h1,h2,h3⟩=>⟨p1,n1,c1,p2,n2,c2,e,Lib.hid ⟨h1,h2,h3⟩,hb.trans (h3.mono hb.size)⟩
theorem sl_one (w:World):Sl (w.alloc (.cells #[.int .i64 1] 3)) (some ⟨w.heap.size,0,none⟩) 1 1 1:=by
 have h1:pcN 1=[1]:=by rw [pcN,dif_neg (by decide),show 1 / 10000=0 from rfl,pcN_zero];rfl
 refine ⟨by rw [h1];rfl,Nat.le_refl _,by omega,(fun h=>by cases h),?_⟩
 rw [h1]
 refine Or.inr ⟨w.heap.size,0,rfl,by simp,fun i hi=>?_⟩
 obtain rfl:i=0:=by simpa using hi
 rw [World.cell?_alloc_new];rfl
theorem emod_of_tmod_neg {x y:Int} (hy:y≠0) (h:x.tmod y < 0):x.tmod y+max y (-y)=x % y∧(x - x % y).tdiv y=x / y:=by
 have h1:=Int.emod_add_mul_ediv x y
 refine ⟨?_,?_⟩
 · have h2:=Int.tmod_eq_emod (a:=x) (b:=y)
   rw [h2] at h ⊢
   split at h
   · have:=Int.emod_nonneg x hy;omega
   · rename_i hc;rw [if_neg hc];omega
 · rw [show x - x % y=y*(x / y) by omega];exact Int.mul_tdiv_cancel_left _ hy
theorem ediv_of_tmod {x y:Int} (hy:y≠0) (h:¬ x.tmod y < 0):x.tmod y=x % y∧x.tdiv y=x / y:=by
 have h1:=Int.emod_add_mul_ediv x y
 have h3:=Int.tmod_add_mul_tdiv x y
 have e:x.tmod y=x % y:=by
   have h2:=Int.tmod_eq_emod (a:=x) (b:=y)
   rw [h2] at h ⊢
   split
   · omega
   · rename_i hc
     rw [if_neg hc] at h
     exfalso
     have:=Int.emod_lt x hy
     omega
 refine ⟨e,?_⟩
 have h4:y*x.tdiv y=y*(x / y):=by omega
 exact Int.eq_of_mul_eq_mul_left hy h4
theorem refDivMod_short (x y:Int) (w:World) (E:Env w) (hx:dlen x≤17) (hy:dlen y≤17) (hyz:y≠0) :
   Calls Tryz.prog 165 #[.string (itoaB x),.string (itoaB y)] w (Ret w (.tuple #[.string (itoaB (x / y)),.string (itoaB (x % y))])):=by
 have e1:x.natAbs < 100000000000000000:=Nat.lt_of_lt_of_le (dig_lt _) (Nat.pow_le_pow_right (by decide) hx)
 have e2:y.natAbs < 100000000000000000:=Nat.lt_of_lt_of_le (dig_lt _) (Nat.pow_le_pow_right (by decide) hy)
 have b1:∀ w,Calls Tryz.prog 198 #[.string (itoaB x)] w (Ret w (.tuple #[.int .i64 x,.bool true])):=fun w=>brief_short x w hx
 have b2:∀ w,Calls Tryz.prog 198 #[.string (itoaB y)] w (Ret w (.tuple #[.int .i64 y,.bool true])):=fun w=>brief_short y w hy
 have q3:(x / y).natAbs < 1000000000000000000:=by have:=Int.natAbs_ediv_le_natAbs x y;omega
 have r3:0≤x % y∧x % y < 1000000000000000000:=by have h1:=Int.emod_nonneg x hyz;have h2:=Int.emod_lt x hyz;omega
 have o1:CE 199 #[.int .i64 (x / y)] (.string (itoaB (x / y))):=fun w E=>refOf_any (x / y) (by omega) (by omega) w E
 have o2:CE 199 #[.int .i64 (x % y)] (.string (itoaB (x % y))):=fun w E=>refOf_any (x % y) (by omega) (by omega) w E
 have a3:(x.tdiv y).natAbs≤x.natAbs:=by rw [Int.natAbs_tdiv];exact Nat.div_le_self _ _
 have a4:(x.tmod y).natAbs≤x.natAbs:=by rw [Int.natAbs_tmod];exact Nat.mod_le _ _
 have hneg:=fun h:x.tmod y < 0=>emod_of_tmod_neg hyz h
 have hpos:=fun h:¬ x.tmod y < 0=>ediv_of_tmod hyz h
 have hyne:(y == 0)=false:=by rw [beq_eq_false_iff_ne];exact hyz
 obtain ⟨q9,hq9⟩:∃ q9,x / y=q9:=⟨_,rfl⟩
 obtain ⟨r9,hr9⟩:∃ r9,x % y=r9:=⟨_,rfl⟩
 obtain ⟨qq,hqq⟩:∃ qq,x.tdiv y=qq:=⟨_,rfl⟩
 obtain ⟨rr,hrr⟩:∃ rr,x.tmod y=rr:=⟨_,rfl⟩
 rw [hq9] at o1 q3 ⊢
 rw [hr9] at o2 r3 ⊢
 simp only [hq9,hr9,hqq,hrr] at hneg hpos a3 a4
 have z1:IntKind.i64.wrap qq=qq:=IntWalk.i64_in _ (by omega)
 have z1':IntKind.i64.wrap rr=rr:=IntWalk.i64_in _ (by omega)
 obtain ⟨a,ha⟩:∃ a,itoaB x=a:=⟨_,rfl⟩
 obtain ⟨b,hb0⟩:∃ b,itoaB y=b:=⟨_,rfl⟩
 rw [ha] at b1 ⊢
 rw [hb0] at b2 ⊢
 obtain ⟨sq,hsq⟩:∃ sq,itoaB q9=sq:=⟨_,rfl⟩
 obtain ⟨sr,hsr⟩:∃ sr,itoaB r9=sr:=⟨_,rfl⟩
 rw [hsq] at o1 ⊢
 rw [hsr] at o2 ⊢
 have B1:=Lib.hid b1
 have B2:=Lib.hid b2
 have O1:=Lib.hid o1
 have O2:=Lib.hid o2
 clear b1 b2 o1 o2 ha hb0 hsq hsr hq9 hr9 hx hy
 have hb:=Below.refl w.heap.size w
 by_cases hr:rr < 0
 · obtain ⟨h1,h2⟩:=hneg hr
   have z2:IntKind.i64.wrap (-y) = -y:=IntWalk.i64_in _ (by omega)
   obtain ⟨my,hmy⟩:∃ my,max y (-y)=my:=⟨_,rfl⟩
   rw [hmy] at h1
   have z3:IntKind.i64.wrap (rr+my)=r9:=by rw [h1];exact IntWalk.i64_in _ (by omega)
   obtain ⟨d,hd⟩:∃ d,x - r9=d:=⟨_,rfl⟩
   rw [hd] at h2
   have z4:IntKind.i64.wrap (x - r9)=d:=by rw [hd];exact IntWalk.i64_in _ (by omega)
   have z5:wrap64 q9=q9:=IntWalk.wrap64_in _ ⟨by omega,by omega⟩
   clear h1 hneg hpos hd e1 e2 q3 r3 a3 a4
   go_enter Tryz.func165,Tryz.ntmps165
   go_wp2_with (go_at_call 198;first | (with_reducible refine (chain hb (B1.out _)).mono ?_;clear hb;rintro e w1 ⟨rfl,hb⟩) | (with_reducible refine (chain hb (B2.out _)).mono ?_;clear hb;rintro e w1 ⟨rfl,hb⟩))
   go_wp2
   go_region
   go_wp2_with (go_at_call 199;first | (with_reducible refine (chain hb.drew (O1.out _ (E.below hb.drew))).mono ?_;clear hb;rintro e w1 ⟨rfl,hb⟩) | (with_reducible refine (chain hb (O2.out _ (E.below hb))).mono ?_;clear hb;rintro e w1 ⟨rfl,hb⟩))
   go_ret2
   exact ⟨rfl,hb⟩
 · obtain ⟨h1,h2⟩:=hpos hr
   subst h1 h2
   clear hneg hpos e1 e2 q3 a3 a4
   go_enter Tryz.func165,Tryz.ntmps165
   go_wp2_with (go_at_call 198;first | (with_reducible refine (chain hb (B1.out _)).mono ?_;clear hb;rintro e w1 ⟨rfl,hb⟩) | (with_reducible refine (chain hb (B2.out _)).mono ?_;clear hb;rintro e w1 ⟨rfl,hb⟩))
   go_wp2
   go_region
   go_wp2_with (go_at_call 199;first | (with_reducible refine (chain hb.drew (O1.out _ (E.below hb.drew))).mono ?_;clear hb;rintro e w1 ⟨rfl,hb⟩) | (with_reducible refine (chain hb (O2.out _ (E.below hb))).mono ?_;clear hb;rintro e w1 ⟨rfl,hb⟩))
   go_ret2
   exact ⟨rfl,hb⟩
theorem refDivMod_long (x y v1 v2:Int) (b1 b2:Bool) (w:World) (E:Env w) (hk:b1=false∨(b1=true∧b2=false)) (hx:dlen x≤9000) (hy:dlen y≤9000) (hyz:y≠0)
   (k1:∀ w,Calls Tryz.prog 198 #[.string (itoaB x)] w (Ret w (.tuple #[.int .i64 v1,.bool b1])))
   (k2:∀ w,Calls Tryz.prog 198 #[.string (itoaB y)] w (Ret w (.tuple #[.int .i64 v2,.bool b2]))) :
   Calls Tryz.prog 165 #[.string (itoaB x),.string (itoaB y)] w (Ret w (.tuple #[.string (itoaB (x / y)),.string (itoaB (x % y))])):=by
 have s1:∀ w,Calls Tryz.prog 159 #[.string (itoaB x)] w (Ret w (.tuple #[.bool (decide (x < 0)),.string (magB (itoaB x))])):=fun w=>split_any _ w _ (neg_itoaB x)
 have s2:∀ w,Calls Tryz.prog 159 #[.string (itoaB y)] w (Ret w (.tuple #[.bool (decide (y < 0)),.string (magB (itoaB y))])):=fun w=>split_any _ w _ (neg_itoaB y)
 have t1:∀ w,Calls Tryz.prog 201 #[.string (magB (itoaB x))] w (RetP w (pcN x.natAbs)):=fun w=>take_itoa x w (by omega)
 have t2:∀ w,Calls Tryz.prog 201 #[.string (magB (itoaB y))] w (RetP w (pcN y.natAbs)):=fun w=>take_itoa y w (by omega)
 have bx:(Lib.decDigits x.natAbs).length≤9000:=by unfold dlen at hx;exact hx
 have by':(Lib.decDigits y.natAbs).length≤9000:=by unfold dlen at hy;exact hy
 have lx:(pcN x.natAbs).length≤9000:=pcN_len_dec _ _ bx
 have ly:(pcN y.natAbs).length≤9000:=pcN_len_dec _ _ by'
 have dd:∀ V,V≤x.natAbs+y.natAbs→(Lib.decDigits V).length≤9001:=fun V hV=>dec_add_len 9000 x.natAbs y.natAbs V (by decide) bx by' hV
 have ll:∀ V,V≤x.natAbs+y.natAbs→(pcN V).length≤9001:=fun V hV=>pcN_len_dec _ _ (dd V hV)
 have hYP:0 < y.natAbs:=by omega
 have hq1:x.natAbs / y.natAbs+1≤x.natAbs+y.natAbs:=by have:=Nat.div_le_self x.natAbs y.natAbs;omega
 have hq0:x.natAbs / y.natAbs≤x.natAbs+y.natAbs:=by omega
 have hr0:x.natAbs % y.natAbs≤x.natAbs+y.natAbs:=by have:=Nat.mod_le x.natAbs y.natAbs;omega
 have hr1:y.natAbs - x.natAbs % y.natAbs≤x.natAbs+y.natAbs:=by omega
 have hle:=Nat.le_of_lt (Nat.mod_lt x.natAbs hYP)
 have LQ1:Hid ((pcN (x.natAbs / y.natAbs+1)).length≤100000):=Lib.hid (Nat.le_trans (ll _ hq1) (by decide))
 have LQ0:Hid ((pcN (x.natAbs / y.natAbs)).length≤100000):=Lib.hid (Nat.le_trans (ll _ hq0) (by decide))
 have LR0:Hid ((pcN (x.natAbs % y.natAbs)).length≤100000):=Lib.hid (Nat.le_trans (ll _ hr0) (by decide))
 have LR1:Hid ((pcN (y.natAbs - x.natAbs % y.natAbs)).length≤100000):=Lib.hid (Nat.le_trans (ll _ hr1) (by decide))
 have DQ1:Hid ((Lib.decDigits (x.natAbs / y.natAbs+1)).length≤1000000):=Lib.hid (Nat.le_trans (dd _ hq1) (by decide))
 have DQ0:Hid ((Lib.decDigits (x.natAbs / y.natAbs)).length≤1000000):=Lib.hid (Nat.le_trans (dd _ hq0) (by decide))
 have DR0:Hid ((Lib.decDigits (x.natAbs % y.natAbs)).length≤1000000):=Lib.hid (Nat.le_trans (dd _ hr0) (by decide))
 have DR1:Hid ((Lib.decDigits (y.natAbs - x.natAbs % y.natAbs)).length≤1000000):=Lib.hid (Nat.le_trans (dd _ hr1) (by decide))
 have LX:Hid ((pcN x.natAbs).length≤90000):=Lib.hid (Nat.le_trans lx (by decide))
 have LY:Hid ((pcN y.natAbs).length≤90000):=Lib.hid (Nat.le_trans ly (by decide))
 have LY1:Hid ((pcN y.natAbs).length≤100000):=Lib.hid (Nat.le_trans ly (by decide))
 have gx:=sgI_dec x
 have gy:=sgI_dec y
 have DN:=Lib.hid (fun h:x.natAbs % y.natAbs≠0=>fun b (e:decide (x < 0)=true) (eb:decide (y < 0)=b)=>dm_neg (b2:=b) (x:=x) (y:=y) (by rw [← e];exact gx) (by rw [← eb];exact gy) hYP h)
 have DP:=Lib.hid (fun b b' (e:decide (x < 0)=b) (eb:decide (y < 0)=b') (h:b=true→x.natAbs % y.natAbs=0)=>dm_pos (b1:=b) (b2:=b') (x:=x) (y:=y) (by rw [← e];exact gx) (by rw [← eb];exact gy) hYP h)
 obtain ⟨mx,hmx⟩:∃ v,decide (x < 0)=v:=⟨_,rfl⟩
 obtain ⟨my,hmy⟩:∃ v,decide (y < 0)=v:=⟨_,rfl⟩
 obtain ⟨sx,hsx⟩:∃ v,magB (itoaB x)=v:=⟨_,rfl⟩
 obtain ⟨sy,hsy⟩:∃ v,magB (itoaB y)=v:=⟨_,rfl⟩
 obtain ⟨q,hq⟩:∃ v,itoaB (x / y)=v:=⟨_,rfl⟩
 obtain ⟨r,hr⟩:∃ v,itoaB (x % y)=v:=⟨_,rfl⟩
 obtain ⟨a,ha⟩:∃ v,itoaB x=v:=⟨_,rfl⟩
 obtain ⟨b,hb0⟩:∃ v,itoaB y=v:=⟨_,rfl⟩
 rw [hsx] at s1 t1
 rw [hsy] at s2 t2
 rw [hmx] at s1
 rw [hmy] at s2
 rw [hq,hr]
 rw [ha] at s1 k1 ⊢
 rw [hb0] at s2 k2 ⊢
 have K1:=Lib.hid k1
 have K2:=Lib.hid k2
 have S1:=Lib.hid s1
 have S2:=Lib.hid s2
 have T1:=Lib.hid t1
 have T2:=Lib.hid t2
 have HQE:=Lib.hid hq
 have HRE:=Lib.hid hr
 have HMX:=Lib.hid hmx
 have HMY:=Lib.hid hmy
 have HYP:=Lib.hid hYP
 have HLE:=Lib.hid hle
 clear k1 k2 s1 s2 t1 t2 hmx hmy hsx hsy hq hr ha hb0 hx hy bx by' lx ly dd ll hq1 hq0 hr0 hr1 gx gy hYP hle hyz
 have hb:=Below.refl w.heap.size w
 rcases hk with rfl | ⟨rfl,rfl⟩
 all_goals
   go_enter Tryz.func165,Tryz.ntmps165
   go_upto_region 12 with (first | (go_at_call 198;first | (with_reducible refine (chain hb (K1.out _)).mono ?_;clear hb;rintro e w1 ⟨rfl,hb⟩) | (with_reducible refine (chain hb (K2.out _)).mono ?_;clear hb;rintro e w1 ⟨rfl,hb⟩)) | (go_at_call 159;first | (with_reducible refine (chain hb (S1.out _)).mono ?_;clear hb;rintro e w1 ⟨rfl,hb⟩) | (with_reducible refine (chain hb (S2.out _)).mono ?_;clear hb;rintro e w1 ⟨rfl,hb⟩)) | (go_at_call 201;first | (with_reducible refine (chainR hb (T1.out _)).mono ?_;clear hb;rintro e w1 ⟨p1,n1,c1,rfl,hs1,hl1,hb⟩;have HS1:=Lib.hid hs1;have HL1:=Lib.hid hl1;clear hs1 hl1) | (with_reducible refine (chainR hb (T2.out _)).mono ?_;clear hb;rintro e w2 ⟨p2,n2,c2,rfl,hs2,hl2,hb⟩;have HS2:=Lib.hid hs2;have HL2:=Lib.hid hl2;clear hs2 hl2)) | (go_at_call 200;refine (chainRQ hb (parts_sl (HS1.out.below HL2.out) HS2.out LX.out LY.out HYP.out)).mono ?_;clear hb;rintro e w5 ⟨p5,n5,c5,p6,n6,c6,rfl,hs5,hb⟩))
   have hn6:=hs5.out.2.1.len
   by_cases hA:mx=true∧n6≠0
   · obtain ⟨rfl,hn6z⟩:=hA
     have hRz:x.natAbs % y.natAbs≠0:=fun e=>hn6z (by rw [hn6,e,pcN_zero];rfl)
     obtain ⟨e1,e2⟩:=DN.out hRz my HMX.out HMY.out
     have hgt:(0:Int) < (n6:Int):=by omega
     have e1':sgI (!my) (x.natAbs / y.natAbs+1)=x / y:=by cases my <;> exact e1
     have E1:Hid (strOf (sgn (!my) (x.natAbs / y.natAbs+1))=q):=Lib.hid (by rw [sgn_sgI e1',HQE.out])
     have E2:Hid (strOf (sgn false (y.natAbs - x.natAbs % y.natAbs))=r):=Lib.hid (by rw [sgn_sgI e2,HRE.out])
     have cj:=joined_sl (w:=w5.alloc (.cells #[.int .i64 1] 3)) (hs5.out.1.below ((Below.refl _ _).alloc (Nat.le_refl _) _)) (sl_one w5) LQ0.out (Nat.le_trans (pcN_len 1 1 (by decide)) (by decide)) 1 (by decide) (by decide) (x.natAbs / y.natAbs+1) (by omega)
     have CJ:=Lib.hid cj
     have hba:Below w.heap.size w (w5.alloc (.cells #[.int .i64 1] 3)):=hb.alloc hb.size _
     have HL5:Hid (Below w5.heap.size w5 (w5.alloc (.cells #[.int .i64 1] 3))):=Lib.hid ((Below.refl _ _).alloc (Nat.le_refl _) _)
     clear cj e1 e1' e2 hRz hn6 hn6z hb
     go_upto_region 14 with (first | (go_at_call 202;first | (with_reducible refine (chainR hba CJ.out).mono ?_;clear hba;rintro e w7 ⟨p7,n7,c7,rfl,hs7,hl7,hb⟩;have HS7:=Lib.hid hs7;have HL7:=Lib.hid hl7;clear hs7 hl7) | (refine (chainR hb (joined_sl HS8.out (((hs5.out.2.1.below HL5.out).below HL7.out).below HL8.out) LY1.out LR0.out (-1) (by decide) (by decide) (y.natAbs - x.natAbs % y.natAbs) (by have:=HLE.out;omega))).mono ?_;clear hb;rintro e w10 ⟨p10,n10,c10,rfl,hs10,hl10,hb⟩;have HS10:=Lib.hid hs10;have HL10:=Lib.hid hl10;clear hs10 hl10)) | (go_at_call 201;with_reducible refine (chainR hb (T2.out _)).mono ?_;clear hb;rintro e w8 ⟨p8,n8,c8,rfl,hs8,hl8,hb⟩;have HS8:=Lib.hid hs8;have HL8:=Lib.hid hl8;clear hs8 hl8))
     go_wp2_with (go_at_call 203;first | (with_reducible refine (chain2 hb (made_sl (E.below hb) ((HS7.out.below HL8.out).below HL10.out) LQ1.out DQ1.out _ q E1.out)).mono ?_;clear hb;rintro e w9 ⟨rfl,hb89,hb⟩) | (with_reducible refine (chain hb (made_sl (E.below hb) (HS10.out.below hb89) LR1.out DR1.out _ r E2.out)).mono ?_;clear hb;rintro e wz ⟨rfl,hb⟩))
     go_ret2
     exact ⟨rfl,hb⟩
   · have hz6:mx=true→n6=0:=fun h=>by
       rcases Nat.eq_zero_or_pos n6 with h0 | h0
       · exact h0
       · exact absurd ⟨h,by omega⟩ hA
     have hR9:mx=true→x.natAbs % y.natAbs=0:=fun h=>by
       rw [hz6 h] at hn6
       exact pcN_nil (List.length_eq_zero_iff.1 hn6.symm)
     obtain ⟨e1,e2⟩:=DP.out mx my HMX.out HMY.out hR9
     have E2:Hid (strOf (sgn false (x.natAbs % y.natAbs))=r):=Lib.hid (by rw [sgn_sgI e2,HRE.out])
     cases mx
     · have e1':sgI my (x.natAbs / y.natAbs)=x / y:=by cases my <;> exact e1
       have E1:Hid (strOf (sgn my (x.natAbs / y.natAbs))=q):=Lib.hid (by rw [sgn_sgI e1',HQE.out])
       clear hA hR9 hz6 e1 e1' e2 hn6
       go_wp2_with (go_at_call 203;first | (with_reducible refine (chain2 hb (made_sl (E.below hb) hs5.out.1 LQ0.out DQ0.out _ q E1.out)).mono ?_;clear hb;rintro e w9 ⟨rfl,hb89,hb⟩) | (with_reducible refine (chain hb (made_sl (E.below hb) (hs5.out.2.1.below hb89) LR0.out DR0.out _ r E2.out)).mono ?_;clear hb;rintro e wz ⟨rfl,hb⟩))
       go_ret2
       exact ⟨rfl,hb⟩
     · have e1':sgI (!my) (x.natAbs / y.natAbs)=x / y:=by cases my <;> exact e1
       have E1:Hid (strOf (sgn (!my) (x.natAbs / y.natAbs))=q):=Lib.hid (by rw [sgn_sgI e1',HQE.out])
       have hgt:¬ (0:Int) < (n6:Int):=by have:=hz6 rfl;omega
       have hgb:decide ((0:Int) < (n6:Int))=false:=decide_eq_false hgt
       clear hA hR9 hz6 e1 e1' e2 hn6
       go_wp2_with (go_at_call 203;first | (with_reducible refine (chain2 hb (made_sl (E.below hb) hs5.out.1 LQ0.out DQ0.out _ q E1.out)).mono ?_;clear hb;rintro e w9 ⟨rfl,hb89,hb⟩) | (with_reducible refine (chain hb (made_sl (E.below hb) (hs5.out.2.1.below hb89) LR0.out DR0.out _ r E2.out)).mono ?_;clear hb;rintro e wz ⟨rfl,hb⟩))
       go_ret2
       exact ⟨rfl,hb⟩
theorem refDivMod_any (x y:Int) (w:World) (E:Env w) (hx:dlen x≤9000) (hy:dlen y≤9000) (hyz:y≠0) :
   Calls Tryz.prog 165 #[.string (itoaB x),.string (itoaB y)] w (Ret w (.tuple #[.string (itoaB (x / y)),.string (itoaB (x % y))])):=by
 by_cases h1:dlen x≤17
 · by_cases h2:dlen y≤17
   · exact refDivMod_short x y w E h1 h2 hyz
   · exact refDivMod_long x y x 0 true false w E (Or.inr ⟨rfl,rfl⟩) hx hy hyz (fun w=>brief_short x w h1) (fun w=>brief_long y w (by omega) (by omega))
 · obtain ⟨v2,b2,_,B2⟩:=brief_any y (by omega)
   exact refDivMod_long x y 0 v2 false b2 w E (Or.inl rfl) hx hy hyz (fun w=>brief_long x w (by omega) (by omega)) B2
theorem itoa_val : ∃ mv:Value→Nat,∀ g:Nat,mv (.string (itoaB (g:Int)))=g:=by
 refine ⟨fun v=>Classical.epsilon (fun g:Nat=>v = .string (itoaB (g:Int))),fun g=>?_⟩
 have:=Classical.epsilon_spec (p:=fun g':Nat=>Value.string (itoaB (g:Int)) = .string (itoaB (g':Int))) ⟨g,rfl⟩
 injection this with h
 have h2:=itoa_inj h
 exact (Int.ofNat.inj h2).symm
theorem refGcd_any (x y:Int) (w:World) (E:Env w) (hx:dlen x≤2000) (hy:dlen y≤2000) :
   Calls Tryz.prog 133 #[.string (itoaB x),.string (itoaB y)] w (Ret w (.string (itoaB (Nat.gcd x.natAbs y.natAbs)))):=by
 obtain ⟨mv,hmv⟩:=itoa_val
 have a1:=fun w=>refAbs_any x w
 have a2:=fun w=>refAbs_any y w
 have hdx:dlen (x.natAbs:Int)≤2000:=dlen_nat_le _ x 2000 (by decide) (Nat.le_refl _) hx
 have hdy:dlen (y.natAbs:Int)≤2000:=dlen_nat_le _ y 2000 (by decide) (Nat.le_refl _) hy
 have dm:∀ (X Y:Nat),Y≠0→dlen (X:Int)≤2000→dlen (Y:Int)≤2000→CE 165 #[.string (itoaB (X:Int)),.string (itoaB (Y:Int))] (.tuple #[.string (itoaB ((X / Y:Nat):Int)),.string (itoaB ((X % Y:Nat):Int))]):=fun X Y hY h1 h2 w E=>by
   have:=refDivMod_any (X:Int) (Y:Int) w E (by omega) (by omega) (by omega)
   rwa [← Int.natCast_ediv,← Int.natCast_emod] at this
 obtain ⟨G,hG⟩:∃ G,Nat.gcd x.natAbs y.natAbs=G:=⟨_,rfl⟩
 obtain ⟨X0,hX0⟩:∃ X0,x.natAbs=X0:=⟨_,rfl⟩
 obtain ⟨Y0,hY0⟩:∃ Y0,y.natAbs=Y0:=⟨_,rfl⟩
 rw [hX0,hY0] at hG
 rw [hX0] at hdx
 rw [hY0] at hdy
 rw [hX0,hY0,hG]
 simp only [hX0] at a1
 simp only [hY0] at a2
 obtain ⟨a,ha⟩:∃ a,itoaB x=a:=⟨_,rfl⟩
 obtain ⟨b,hb'⟩:∃ b,itoaB y=b:=⟨_,rfl⟩
 simp only [ha] at a1
 simp only [hb'] at a2
 rw [ha,hb']
 have A1:=Lib.hid a1
 have A2:=Lib.hid a2
 have DM:=Lib.hid dm
 have HMV:=Lib.hid hmv
 have HG:=Lib.hid hG
 clear a1 a2 dm hmv ha hb' hX0 hY0 hx hy hG
 have hb:=Below.refl w.heap.size w
 go_enter Tryz.func133,Tryz.ntmps133
 go_wp2_with (go_at_call 164;first | (with_reducible refine (chain hb (A1.out _)).mono ?_;clear hb;rintro e w1 ⟨rfl,hb⟩) | (with_reducible refine (chain hb (A2.out _)).mono ?_;clear hb;rintro e w1 ⟨rfl,hb⟩))
 have HB:=Lib.hid hb
 clear hb
 go_loopw [0,1] (fun xv yv wr=>∃ X Y:Nat,xv = .string (itoaB (X:Int))∧yv = .string (itoaB (Y:Int))∧dlen (X:Int)≤2000∧dlen (Y:Int)≤2000∧Nat.gcd X Y=G∧Below w.heap.size w wr) (fun _ yv _=>mv yv)
 case atStart=>exact ⟨X0,Y0,rfl,rfl,hdx,hdy,HG.out,HB.out⟩
 case round =>
   obtain ⟨X,Y,rfl,rfl,hdX,hdY,hg,hb⟩:=hrel
   clear HB
   by_cases h0:Y=0
   · subst h0
     have e0:itoaB ((0:Nat):Int)=⟨#[48]⟩:=(itoa_eq_zero 0).2 rfl
     rw [Nat.gcd_zero_right] at hg
     subst hg
     rw [e0]
     go_wp2
     go_ret
     exact ⟨rfl,hb⟩
   · have hz:((itoaB (Y:Int)).toList == [48])=false:=by
       rw [← decide_eq_false (show ¬ (Y:Int)=0 by omega),Bool.eq_iff_iff,beq_iff_eq,decide_eq_true_iff,← itoa_eq_zero,Lib.toList_data]
       exact ⟨fun h=>dat_inj h,fun h=>by rw [h]⟩
     have c1:=DM.out X Y h0 hdX hdY
     have hm1:=HMV.out Y
     have hm2:=HMV.out (X % Y)
     have hlt:=Nat.mod_lt X (Nat.pos_of_ne_zero h0)
     have hgc:Nat.gcd Y (X % Y)=G:=by rw [gcd_step];exact hg
     have hdm:dlen ((X % Y:Nat):Int)≤2000:=dlen_nat_le _ (Y:Int) 2000 (by decide) (by rw [Int.natAbs_natCast];exact Nat.le_of_lt hlt) hdY
     obtain ⟨M,hM⟩:∃ M,X % Y=M:=⟨_,rfl⟩
     rw [hM] at hm2 hgc hdm hlt
     simp only [hM] at c1
     obtain ⟨sx,hsx⟩:∃ sx,itoaB (X:Int)=sx:=⟨_,rfl⟩
     obtain ⟨sy,hsy⟩:∃ sy,itoaB (Y:Int)=sy:=⟨_,rfl⟩
     obtain ⟨sm,hsm⟩:∃ sm,itoaB (M:Int)=sm:=⟨_,rfl⟩
     rw [hsx,hsy]
     rw [hsy] at hz hm1
     rw [hsm] at hm2
     simp only [hsx,hsy,hsm] at c1
     have C1:=Lib.hid c1
     have HSM:=Lib.hid hsm
     have HSY:=Lib.hid hsy
     have HM1:=Lib.hid hm1
     have HM2:=Lib.hid hm2
     clear c1 hsx hsy hsm hm1 hm2 hM hg hdX h0
     go_wp2_with (go_at_call 165;refine (chain hb (C1.out _ (E.below hb))).mono ?_;clear hb;rintro e w1 ⟨rfl,hb⟩)
     exact ⟨⟨Y,M,by rw [HSY.out],by rw [HSM.out],hdY,hdm,hgc,hb⟩,by rw [HM1.out,HM2.out];exact hlt⟩
end Go.Proofs.YtejfiegmdllfbaaGreatDoor.Kl
