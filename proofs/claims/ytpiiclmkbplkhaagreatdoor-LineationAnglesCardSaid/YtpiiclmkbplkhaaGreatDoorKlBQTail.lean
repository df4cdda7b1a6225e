import Derived.StillTail
import Derived.Lib.QuietBelow
namespace Go.Proofs.YtpiiclmkbplkhaaGreatDoor.Kl
open Go Go.Sort Go.RowKit
set_option maxRecDepth 100000
set_option maxHeartbeats 8000000
section
variable {P:Program} {ops:Array Oper} {md:Region.Mode} {C:World→Prop}
def headQ (P:Program) (md:Region.Mode) (ops:Array Oper) (C:World→Prop) (n:Nat) (L:Array Bool→Act→Prop):Nat→Array Bool→Act→Prop
 | 0,s,a=>L s a
 | f+1,s,a=>Region.ready md ops s≠[]∧∀ i ∈ Region.ready md ops s,i < n∧qOp P ops C i (headQ P md ops C n L f (s.setIfInBounds i true)) a
theorem wpAny_headQ {n g:Nat} {L:Array Bool→Act→Prop} {Q:Exit→Act→World→Prop} (hL:∀ s a w,C w→L s a→wpAny P md ops Q g s a w) :
   ∀ (f:Nat) (s:Array Bool) (a:Act) (w:World),C w→headQ P md ops C n L f s a→wpAny P md ops Q (f+g) s a w
 | 0,_,_,_,hw,h=>by rw [Nat.zero_add];exact hL _ _ _ hw h
 | f+1,_,_,_,hw,h=>by
   rw [show f+1+g=(f+g)+1 by omega]
   exact ⟨fun h0=>absurd h0 h.1,fun i hi=>wpOp_of_qOp hw (fun a' w' hw' h' => wpAny_headQ hL f _ a' w' hw' h') (h.2 i hi).2⟩
theorem headQ_first {n i:Nat} {oi:Oper} {v:Value} {L:Array Bool→Act→Prop} (hi:ops[i]? = some oi) (hsel:∀ (j:Nat) (o:Oper) cs b,ops[j]? = some o→o.op ≠ .select cs b)
   (hs:Region.sinkB md ops n=true) (hc:Region.chainB md ops n=true) (hn:n < ops.size) (hin:i < n) (hdone:∀ s a,L s a→∀ j ∈ Region.ready md ops s,n≤j) :
   ∀ (f:Nat) (s:Array Bool) (a:Act),HeadInv md ops n s →
     (∀ j oj,ops[j]? = some oj→j≠i→s.getD j true=false→(∀ e ∈ oj.after,Region.binds md e=true→e.on≠i)→oi.apart ops oj=true) →
     i ∈ Region.ready md ops s→YieldsIn P ops C oi v a →
     headQ P md ops C n L f (s.setIfInBounds i true) (a.put oi.dst v)→headQ P md ops C n L (f+1) s a:=by
 intro f
 induction f with
 | zero =>
   intro s a inv _ hr hy H
   refine ⟨List.ne_nil_of_mem hr,fun j hj=>?_⟩
   have hjn:j < n:=Nat.lt_of_not_le fun h=>absurd hj (tail_waits hs hc hn inv _ i rfl hin (mem_ready.1 hr).1 j h)
   refine ⟨hjn,?_⟩
   by_cases hji:j=i
   · rw [hji];exact hy.qOp hi H
   · exact absurd (hdone _ _ H j (ready_mono hj hji)) (by omega)
 | succ f ih =>
   intro s a inv hfree hr hy H
   have hun:=(mem_ready.1 hr).1
   refine ⟨List.ne_nil_of_mem hr,fun j hj=>?_⟩
   have hjn:j < n:=Nat.lt_of_not_le fun h=>absurd hj (tail_waits hs hc hn inv _ i rfl hin hun j h)
   refine ⟨hjn,?_⟩
   by_cases hji:j=i
   · rw [hji];exact hy.qOp hi H
   · obtain ⟨hjun,oj,hoj,hall⟩:=mem_ready.1 hj
     have hnot:∀ e ∈ oj.after,Region.binds md e=true→e.on≠i:=fun e he hb heq=>by
       have h0:=hall e he hb
       rw [heq,getD_both hun] at h0
       exact absurd h0 (by decide)
     have h2:=qOp_put hoj (hfree j oj hoj hji hjun hnot) (fun cs b=>hsel i oi cs b hi) (fun cs b=>hsel j oj cs b hoj) hy (H.2 j (ready_mono hj hji)).2
     refine qOp_mono (fun a' h3=>ih (s.setIfInBounds j true) a' (inv.set hj hjn) (fun k ok hk hki hk0 hno=>hfree k ok hk hki ?_ hno) (ready_mono hr (Ne.symm hji)) h3.1 ?_) h2
     · by_cases hjk:j=k
       · rw [← hjk];exact hjun
       · rw [getD_set_ne true hjk] at hk0;exact hk0
     · rw [Array.setIfInBounds_comm _ _ hji]
       exact h3.2
theorem headQ_lex {n g:Nat} {K:Act→Prop} (hsel:Region.noSelect ops=true) (hs:Region.sinkB md ops n=true) (hc:Region.chainB md ops n=true) (hn:n < ops.size) :
   ∀ (l:List Oper) (k:Nat) (s:Array Bool) (a:Act),(∀ j,j < l.length→l[j]? = ops[k+j]?)→k+l.length=n→HeadInv md ops n s →
   Region.lexHead md ops g l.length k s=true→wpQuiet P ops C K l a→headQ P md ops C n (fun s' a' => Region.seqB md ops g n s'=true∧K a') l.length s a
 | [],k,s,a,_,hk,_,hB,h=>by
   have e:k=n:=hk
   rw [e] at hB
   exact ⟨hB,h⟩
 | o :: l,k,s,a,hl,hk,inv,hB,h=>by
   have h0:ops[k]? = some o:=(hl 0 (Nat.zero_lt_succ _)).symm
   simp only [List.length_cons,Region.lexHead,Bool.and_eq_true] at hB
   have hkn:k < n:=by simp only [List.length_cons] at hk;omega
   have hr:k ∈ Region.ready md ops s:=List.contains_iff_mem.1 hB.1.1
   have hq:qOp P ops C k (wpQuiet P ops C K l) a:=by unfold qOp;simp only [h0];exact h
   obtain ⟨v,hy,hK⟩:=yieldsIn_of_qOp h0 hq
   refine headQ_first h0 (Region.noSelect_spec hsel) hs hc hn hkn (fun s' a' hL=>seqB_ready hL.1) l.length s a inv (Region.free_spec h0 hB.1.2) hr hy ?_
   refine headQ_lex hsel hs hc hn l (k+1) _ _ (fun j hj=>?_) (by simp only [List.length_cons] at hk;omega) (inv.set hr hkn) hB.2 hK
   have:=hl (j+1) (by simp only [List.length_cons];omega)
   rw [List.getElem?_cons_succ] at this
   rw [this,Nat.add_assoc,Nat.add_comm 1 j]
theorem wp_region_tail {id:Nat} {Q:Exit→Act→World→Prop} {a:Act} {w:World} {l:List Oper} (n:Nat) (hm:P.follows .mixedOrders=true) (hB:Region.lexTailB .any l.toArray n=true)
   (hC:C { w with drawn:=w.drawn+1 })
   (h:wpQuiet P l.toArray C (fun a' => ∀ w',C w'→wpList P l.toArray Q (l.drop n) a' w') (l.take n) a):(Code.region id l.toArray true).wp P Q a w:=by
 simp only [Region.lexTailB,Bool.and_eq_true,decide_eq_true_eq] at hB
 obtain ⟨⟨⟨⟨hsel,hn⟩,hs⟩,hc⟩,hlex⟩:=hB
 have hn':n < l.length:=by simpa using hn
 have htl:(l.take n).length=n:=by rw [List.length_take];omega
 have hdl:(l.drop n).length=l.toArray.size - n:=by simp
 have inv0:HeadInv .any l.toArray n (Array.replicate l.toArray.size false):=
   ⟨by simp,fun j oj _ hl=>absurd hl (by rw [getD_replicate_false];decide),fun t _ ht=>getD_in (by simpa using ht) (getD_replicate_false _ _)⟩
 have H:=headQ_lex (md:=.any) (g:=l.toArray.size - n) hsel hs hc hn (l.take n) 0 _ a (fun j hj=>by
   have hj':j < n:=by rw [htl] at hj;exact hj
   simp [hj']) (by rw [htl,Nat.zero_add]) inv0 (by rw [htl];exact hlex) h
 refine wp_region_any hm ?_
 have T:=wpAny_headQ (Q:=Q) (g:=l.toArray.size - n) (fun s a' w' hw' hL=>by
   have:=wpAny_of_seq (md:=.any) (Q':=Q) (l.drop n) n s a' w' (fun j=>by simp [List.getElem?_drop]) (by rw [hdl];exact hL.1) (hL.2 w' hw')
   rwa [hdl] at this) _ _ _ _ hC H
 rw [htl,show n+(l.toArray.size - n)=l.toArray.size by omega] at T
 exact T
theorem wp_region_tail_below {id:Nat} {Q:Exit→Act→World→Prop} {a:Act} {w:World} {l:List Oper} (n:Nat) (hm:P.follows .mixedOrders=true) (hB:Region.lexTailB .any l.toArray n=true)
   (h:wpQuiet P l.toArray (fun w' => ∃ p:Regrown,w'=grow (redrawn w p.d) p.os) (fun a' => ∀ w',(∃ p:Regrown,w'=grow (redrawn w p.d) p.os)→wpList P l.toArray Q (l.drop n) a' w') (l.take n) a):(Code.region id l.toArray true).wp P Q a w:=
 wp_region_tail (C:=fun w' => ∃ p:Regrown,w'=grow (redrawn w p.d) p.os) n hm hB ⟨⟨w.drawn+1,#[]⟩,by rw [grow_empty];rfl⟩ h
end
end Go.Proofs.YtpiiclmkbplkhaaGreatDoor.Kl
