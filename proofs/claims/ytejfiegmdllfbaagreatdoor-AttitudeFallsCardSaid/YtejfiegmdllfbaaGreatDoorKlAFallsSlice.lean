import Derived.Test.YtejfiegmdllfbaaGreatDoorKlAFallsIntZ
import Derived.Test.YtejfiegmdllfbaaGreatDoorKlBSlice
namespace Go.Proofs.YtejfiegmdllfbaaGreatDoor.Kl
open Go Go.RowKit
set_option maxRecDepth 100000
set_option maxHeartbeats 8000000
def sliceLen : Value→Nat | .slice _ n _=>n | _=>0
theorem cut_some (b o n c:Nat) (xs:List Int) (w:World) (hn:n=xs.length) (hnc:n≤c) (hc:c≤9223372036854775807) (hb:b < w.heap.size)
   (hcell:∀ i,i < xs.length→w.cell? ⟨b,o+i,none⟩=some (.int .i64 (xs[i]?.getD 0))) :
   Calls Tryz.prog 223 #[.slice (some ⟨b,o,none⟩) n c] w (RetP w (trimP xs)):=by
 have HN:=Lib.hid hn
 have HC:=Lib.hid hcell
 clear hn hcell
 go_enter Tryz.func223,Tryz.ntmps223
 go_wp2
 go_loop [0] (fun v=>∃ k:Nat,k≤n∧v = .slice (some ⟨b,o,none⟩) k c∧trimP (xs.take k)=trimP xs) (fun v=>sliceLen v)
 case atStart=>exact ⟨n,Nat.le_refl _,rfl,by rw [HN.out,List.take_length]⟩
 case round =>
   obtain ⟨k,hk,rfl,ht⟩:=hrel
   have HT:=Lib.hid ht
   clear ht
   by_cases h0:k=0
   · subst h0
     go_wp2
     go_ret
     have e:trimP xs=[]:=by rw [← HT.out];rfl
     exact ⟨_,_,_,rfl,by rw [e];rfl,Nat.zero_le _,hc,(fun h=>by cases h),by rw [e];exact Or.inl rfl,Below.refl _ _⟩
   · obtain ⟨j,rfl⟩:∃ j,k=j+1:=⟨k - 1,by omega⟩
     have hjn:j < xs.length:=by have:=HN.out;omega
     have hcj:=HC.out j hjn
     have htl:=take_last (xs:=xs) (k:=j) hjn
     obtain ⟨z,hz⟩:∃ z,xs[j]?.getD 0=z:=⟨_,rfl⟩
     rw [hz] at hcj htl
     have HTL:=Lib.hid htl
     clear hz htl
     by_cases hz0:z=0
     · subst hz0
       go_wp2
       go_round
       case rel=>exact ⟨j,by omega,by go_num,by rw [← HT.out,HTL.out,trimP_snoc_zero]⟩
       case measure=>simp [sliceLen]
     · have hzb:(z == 0)=false:=by simpa using hz0
       go_wp2
       go_ret
       have e:trimP xs=xs.take (j+1):=by rw [← HT.out,HTL.out,trimP_snoc _ hz0]
       exact ⟨_,_,_,rfl,by rw [e,List.length_take];omega,by omega,hc,(fun h=>by cases h),by rw [e];exact Has.take (Or.inr ⟨b,o,rfl,hb,HC.out⟩) _,Below.refl _ _⟩
theorem cut_none (p:Option Addr) (c:Nat) (hc:c≤9223372036854775807) (hpn:p=none→c=0) (w:World) :
   Calls Tryz.prog 223 #[.slice p 0 c] w (RetP w []):=by
 have HPN:=Lib.hid hpn
 clear hpn
 go_enter Tryz.func223,Tryz.ntmps223
 go_wp2
 refine wp_loop_rounds 1 ?_
 rw [rounds_succ]
 go_wp2
 go_ret
 exact ⟨_,_,_,rfl,rfl,Nat.zero_le _,hc,HPN.out,Or.inl rfl,Below.refl _ _⟩
theorem cut_any (p:Option Addr) (n c:Nat) (xs:List Int) (w:World) (hn:n=xs.length) (hnc:n≤c) (hc:c≤9223372036854775807) (hpn:p=none→c=0) (h:Has w p xs) :
   Calls Tryz.prog 223 #[.slice p n c] w (RetP w (trimP xs)):=by
 rcases h with rfl | ⟨b,o,rfl,hlt,hcell⟩
 · obtain rfl:n=0:=hn
   exact cut_none p c hc hpn w
 · exact cut_some b o n c xs w hn hnc hc hlt hcell
theorem less_some (b1 o1 c1 b2 o2 c2 n:Nat) (xs ys:List Int) (w:World) (hn1:n=xs.length) (hn2:n=ys.length) (hm:n≤1000000) (hb1:b1 < w.heap.size) (hb2:b2 < w.heap.size) (hx:IsP 10000 xs) (hy:IsP 10000 ys)
   (hcx:∀ i,i < xs.length→w.cell? ⟨b1,o1+i,none⟩=some (.int .i64 (xs[i]?.getD 0))) (hcy:∀ i,i < ys.length→w.cell? ⟨b2,o2+i,none⟩=some (.int .i64 (ys[i]?.getD 0))) :
   Calls Tryz.prog 221 #[.slice (some ⟨b1,o1,none⟩) n c1,.slice (some ⟨b2,o2,none⟩) n c2] w (Ret w (.bool (decide (pval 10000 xs < pval 10000 ys)))):=by
 have H1:=Lib.hid hn1
 have H2:=Lib.hid hn2
 have HX:=Lib.hid hx
 have HY:=Lib.hid hy
 have HCX:=Lib.hid hcx
 have HCY:=Lib.hid hcy
 clear hn1 hn2 hx hy hcx hcy
 go_enter Tryz.func221,Tryz.ntmps221
 go_wp2
 go_loopw [5] (fun v wr=>∃ k:Nat,k≤n∧v = .int .i64 ((k:Int) - 1)∧xs.drop k=ys.drop k∧Below w.heap.size w wr) (fun v _=>(intOf v+1).toNat)
 case atStart=>exact ⟨n,Nat.le_refl _,rfl,by rw [List.drop_eq_nil_of_le (by have:=H1.out;omega),List.drop_eq_nil_of_le (by have:=H2.out;omega)],Below.refl _ _⟩
 case round =>
   obtain ⟨k,hk,rfl,hd,hb⟩:=hrel
   have HD:=Lib.hid hd
   clear hd
   by_cases h0:k=0
   · subst h0
     go_wp2
     go_ret
     exact ⟨retB (by rw [show xs=ys from HD.out];simp),hb⟩
   · obtain ⟨j,rfl⟩:∃ j,k=j+1:=⟨k - 1,by omega⟩
     have hcj:=(hb.cell (p:=⟨b1,o1+j,none⟩) hb1).trans (HCX.out j (by have:=H1.out;omega))
     have hdj:=(hb.cell (p:=⟨b2,o2+j,none⟩) hb2).trans (HCY.out j (by have:=H2.out;omega))
     obtain ⟨x,hx⟩:∃ x,xs[j]?.getD 0=x:=⟨_,rfl⟩
     obtain ⟨y,hy⟩:∃ y,ys[j]?.getD 0=y:=⟨_,rfl⟩
     rw [hx] at hcj
     rw [hy] at hdj
     have X:=Lib.hid hx
     have Y:=Lib.hid hy
     clear hx hy
     have hj2:(j:Int) < (n:Int):=by omega
     by_cases hxy:x=y
     · subst hxy
       go_wp2
       go_quiet (fail)
       go_wp2
       go_roundw
       case rel=>exact ⟨j,by omega,by go_num,by
         have e:∀ (zs:List Int) (h:j < zs.length),zs.drop j=zs[j]?.getD 0 :: zs.drop (j+1):=fun zs h=>by
           rw [List.getElem?_eq_getElem h];exact (List.getElem_cons_drop h).symm
         rw [e xs (by have:=H1.out;omega),e ys (by have:=H2.out;omega),X.out,Y.out,HD.out],Below.drews hb _⟩
       case measure=>simp [intOf]
     · have hne:(x == y)=false:=by simpa using hxy
       have hres:decide (x < y)=decide (pval 10000 xs < pval 10000 ys):=by
         by_cases hlt:x < y
         · rw [decide_eq_true hlt,decide_eq_true (pval_top (by decide) HX.out.1 HY.out.1 (by have:=H1.out;omega) (by have:=H2.out;omega) HD.out (by rw [X.out,Y.out];exact hlt))]
         · have hgt:y < x:=by omega
           have:=pval_top (by decide:(0:Int) < 10000) HY.out.1 HX.out.1 (k:=j) (by have:=H2.out;omega) (by have:=H1.out;omega) HD.out.symm (by rw [X.out,Y.out];exact hgt)
           rw [decide_eq_false hlt,decide_eq_false (by omega)]
       have HR:=Lib.hid hres
       clear hres
       go_wp2
       go_quiet (fail)
       go_wp2
       go_quiet (fail)
       go_wp2
       go_ret
       exact ⟨retB HR.out,Below.drews (Below.drews hb _) _⟩
theorem less_none (p q:Option Addr) (c d:Nat) (w:World) :
   Calls Tryz.prog 221 #[.slice p 0 c,.slice q 0 d] w (Ret w (.bool false)):=by
 go_enter Tryz.func221,Tryz.ntmps221
 go_wp2
 refine wp_loop_rounds 1 ?_
 rw [rounds_succ]
 go_wp2
 go_ret
 exact ⟨rfl,Below.refl _ _⟩
theorem less_ne (p q:Option Addr) (n c m d:Nat) (w:World) (h:n≠m) (_hn:n≤1000000) (_hm:m≤1000000) (r:Bool) (hr:decide (n < m)=r) :
   Calls Tryz.prog 221 #[.slice p n c,.slice q m d] w (Ret w (.bool r)):=by
 have h1:((n:Int) == (m:Int))=false:=by rw [beq_eq_false_iff_ne];omega
 have h2:decide ((n:Int) < (m:Int))=r:=by rw [← hr,decide_eq_decide];omega
 have h3:decide (n < m)=r:=hr
 go_enter Tryz.func221,Tryz.ntmps221
 go_wp2
 go_ret
 exact ⟨rfl,Below.refl _ _⟩
theorem less_any (p q:Option Addr) (n c m d:Nat) (xs ys:List Int) (w:World) (hn:n=xs.length) (hm:m=ys.length) (hnl:n≤1000000) (hml:m≤1000000) (hx:IsP 10000 xs) (hy:IsP 10000 ys)
   (h1:Has w p xs) (h2:Has w q ys) :
   Calls Tryz.prog 221 #[.slice p n c,.slice q m d] w (Ret w (.bool (decide (pval 10000 xs < pval 10000 ys)))):=by
 by_cases hnm:n=m
 · subst hnm
   rcases h1 with rfl | ⟨b1,o1,rfl,hb1,hc1⟩
   · obtain rfl:n=0:=hn
     obtain rfl:ys=[]:=List.length_eq_zero_iff.1 hm.symm
     exact less_none p q c d w
   · rcases h2 with rfl | ⟨b2,o2,rfl,hb2,hc2⟩
     · obtain rfl:n=0:=hm
       obtain rfl:xs=[]:=List.length_eq_zero_iff.1 hn.symm
       exact less_none _ q c d w
     · exact less_some b1 o1 c b2 o2 d n xs ys w hn hm hnl hb1 hb2 hx hy hc1 hc2
 · refine less_ne p q n c m d w hnm hnl hml _ ?_
   rcases Nat.lt_or_gt_of_ne hnm with h | h
   · rw [decide_eq_true h,decide_eq_true (pval_len (by decide) hx hy (by omega))]
   · have:=pval_len (by decide:(0:Int) < 10000) hy hx (by omega)
     rw [decide_eq_false (by omega),decide_eq_false (by omega)]
end Go.Proofs.YtejfiegmdllfbaaGreatDoor.Kl
