import Derived.Test.YtejfiegmdllfbaaGreatDoorKlBQTail
namespace Go.Proofs.YtejfiegmdllfbaaGreatDoor.Kl
open Go Go.Sort Go.RowKit
set_option maxRecDepth 100000
set_option maxHeartbeats 8000000
section
variable {P:Program} {ops:Array Oper} {md:Region.Mode} {C:World→Prop}
def reachB (md:Region.Mode) (ops:Array Oper) (n:Nat):Bool:=
 (List.range ops.size).all fun t=>decide (t≤n) || (List.range t).any fun k=>decide (n≤k) && Region.waitsFor md ops t k
theorem tail_waits2 {n:Nat} {listed:Array Bool} (hs:Region.sinkB md ops n=true) (hc:reachB md ops n=true) (hn:n < ops.size) (inv:HeadInv md ops n listed) :
   ∀ (d i:Nat),n - i=d→i < n→listed.getD i true=false→∀ t,n≤t→t ∉ Region.ready md ops listed:=by
 intro d
 induction d using Nat.strongRecOn with
 | _ d ih =>
   intro i hd hi hun t ht hr
   obtain ⟨_,ot,hot,hall⟩:=mem_ready.1 hr
   have htlt:t < ops.size:=(Array.getElem?_eq_some_iff.1 hot).1
   by_cases htn:t=n
   · subst htn
     have h1:=List.all_eq_true.1 hs i (List.mem_range.2 hi)
     obtain ⟨j,hj,hj2⟩:=List.any_eq_true.1 h1
     simp only [Bool.and_eq_true,decide_eq_true_eq] at hj2
     obtain ⟨oj,hoj,e,he,hb,hon⟩:=Region.waitsFor_spec hj2.2
     have hjle:j≤t:=by have:=List.mem_range.1 hj;omega
     by_cases hjt:j=t
     · subst hjt
       have:oj=ot:=Option.some.inj (hoj.symm.trans hot)
       subst this
       have h2:=hall e he hb
       rw [hon,getD_both hun] at h2
       cases h2
     · cases hl:listed.getD j false with
       | true =>
         have h2:=inv.closed j oj hoj hl e he hb
         rw [hon,getD_both hun] at h2
         cases h2
       | false =>
         have hjs:j < listed.size:=by rw [inv.size];omega
         exact ih (t - j) (by omega) j rfl (by omega) (getD_in hjs hl) t (Nat.le_refl _) hr
   · have h1:=List.all_eq_true.1 hc t (List.mem_range.2 htlt)
     simp only [Bool.or_eq_true,decide_eq_true_eq] at h1
     rcases h1 with h1 | h1
     · omega
     · obtain ⟨k,hk,hk2⟩:=List.any_eq_true.1 h1
       simp only [Bool.and_eq_true,decide_eq_true_eq] at hk2
       have hkt:=List.mem_range.1 hk
       obtain ⟨o',ho',e,he,hb,hon⟩:=Region.waitsFor_spec hk2.2
       have:o'=ot:=Option.some.inj (ho'.symm.trans hot)
       subst this
       have h2:=hall e he hb
       rw [hon,getD_both (inv.tail k hk2.1 (by omega))] at h2
       cases h2
theorem headQ_first2 {n i:Nat} {oi:Oper} {v:Value} {L:Array Bool→Act→Prop} (hi:ops[i]? = some oi) (hsel:∀ (j:Nat) (o:Oper) cs b,ops[j]? = some o→o.op ≠ .select cs b)
   (hs:Region.sinkB md ops n=true) (hc:reachB md ops n=true) (hn:n < ops.size) (hin:i < n) (hdone:∀ s a,L s a→∀ j ∈ Region.ready md ops s,n≤j) :
   ∀ (f:Nat) (s:Array Bool) (a:Act),HeadInv md ops n s →
     (∀ j oj,ops[j]? = some oj→j≠i→s.getD j true=false→(∀ e ∈ oj.after,Region.binds md e=true→e.on≠i)→oi.apart ops oj=true) →
     i ∈ Region.ready md ops s→YieldsIn P ops C oi v a →
     headQ P md ops C n L f (s.setIfInBounds i true) (a.put oi.dst v)→headQ P md ops C n L (f+1) s a:=by
 intro f
 induction f with
 | zero =>
   intro s a inv _ hr hy H
   refine ⟨List.ne_nil_of_mem hr,fun j hj=>?_⟩
   have hjn:j < n:=Nat.lt_of_not_le fun h=>absurd hj (tail_waits2 hs hc hn inv _ i rfl hin (mem_ready.1 hr).1 j h)
   refine ⟨hjn,?_⟩
   by_cases hji:j=i
   · rw [hji];exact hy.qOp hi H
   · exact absurd (hdone _ _ H j (ready_mono hj hji)) (by omega)
 | succ f ih =>
   intro s a inv hfree hr hy H
   have hun:=(mem_ready.1 hr).1
   refine ⟨List.ne_nil_of_mem hr,fun j hj=>?_⟩
   have hjn:j < n:=Nat.lt_of_not_le fun h=>absurd hj (tail_waits2 hs hc hn inv _ i rfl hin hun j h)
   refine ⟨hjn,?_⟩
   by_cases hji:j=i
   · rw [hji];exact hy.qOp hi H
   · obtain ⟨hjun,oj,hoj,hall⟩:=mem_ready.1 hj
     have hnot:∀ e ∈ oj.after,Region.binds md e=true→e.on≠i:=fun e he hb heq=>by
       have h0:=hall e he hb
       rw [heq,getD_both hun] at h0
       exact absurd h0 (by decide)
     have h2:=qOp_put hoj (hfree j oj hoj hji hjun hnot) (fun cs b=>hsel i oi cs b hi) (fun cs b=>hsel j oj cs b hoj) hy (H.2 j (ready_mono hj hji)).2
     refine qOp_mono (fun a' h3=>ih (s.setIfInBounds j true) a' (inv.set hj hjn) (fun k ok hk hki hk0 hno=>hfree k ok hk hki ?_ hno) (ready_mono hr (Ne.symm hji)) h3.1 ?_) h2
     · by_cases hjk:j=k
       · rw [← hjk];exact hjun
       · rw [getD_set_ne true hjk] at hk0;exact hk0
     · rw [Array.setIfInBounds_comm _ _ hji]
       exact h3.2
def midB (md:Region.Mode) (ops:Array Oper) (f:Nat):Nat→Nat→Array Bool→Bool
 | 0,k,s=>Region.lexFrom md ops f k s
 | m+1,k,s=>decide (Region.ready md ops s=[k]) && midB md ops f m (k+1) (s.setIfInBounds k true)
def midHead (md:Region.Mode) (ops:Array Oper) (m f:Nat):Nat→Nat→Array Bool→Bool
 | 0,k,s=>midB md ops f (m+1) k s
 | h+1,k,s=>(Region.ready md ops s).contains k && Region.free md ops s k && midHead md ops m f h (k+1) (s.setIfInBounds k true)
def midAllB (md:Region.Mode) (ops:Array Oper) (n m:Nat):Bool:=
 Region.noSelect ops && decide (n+(m+1)≤ops.size) && Region.sinkB md ops n && reachB md ops n && midHead md ops m (ops.size - n - (m+1)) n 0 (Array.replicate ops.size false)
theorem headQ_mid {n m f:Nat} {K:Act→Prop} (hsel:Region.noSelect ops=true) (hs:Region.sinkB md ops n=true) (hc:reachB md ops n=true) (hn:n < ops.size) :
   ∀ (l:List Oper) (k:Nat) (s:Array Bool) (a:Act),(∀ j,j < l.length→l[j]? = ops[k+j]?)→k+l.length=n→HeadInv md ops n s →
   midHead md ops m f l.length k s=true→wpQuiet P ops C K l a→headQ P md ops C n (fun s' a' => midB md ops f (m+1) n s'=true∧K a') l.length s a
 | [],k,s,a,_,hk,_,hB,h=>by
   have e:k=n:=hk
   rw [e] at hB
   exact ⟨hB,h⟩
 | o :: l,k,s,a,hl,hk,inv,hB,h=>by
   have h0:ops[k]? = some o:=(hl 0 (Nat.zero_lt_succ _)).symm
   simp only [List.length_cons,midHead,Bool.and_eq_true] at hB
   have hkn:k < n:=by simp only [List.length_cons] at hk;omega
   have hr:k ∈ Region.ready md ops s:=List.contains_iff_mem.1 hB.1.1
   have hq:qOp P ops C k (wpQuiet P ops C K l) a:=by unfold qOp;simp only [h0];exact h
   obtain ⟨v,hy,hK⟩:=yieldsIn_of_qOp h0 hq
   refine headQ_first2 h0 (Region.noSelect_spec hsel) hs hc hn hkn (fun s' a' hL=>?_) l.length s a inv (Region.free_spec h0 hB.1.2) hr hy ?_
   · have h1:=hL.1
     simp only [midB,Bool.and_eq_true,decide_eq_true_eq] at h1
     intro j hj
     rw [h1.1] at hj
     have:j=n:=by simpa using hj
     omega
   · refine headQ_mid hsel hs hc hn l (k+1) _ _ (fun j hj=>?_) (by simp only [List.length_cons] at hk;omega) (inv.set hr hkn) hB.2 hK
     have:=hl (j+1) (by simp only [List.length_cons];omega)
     rw [List.getElem?_cons_succ] at this
     rw [this,Nat.add_assoc,Nat.add_comm 1 j]
def upTo (Q:Exit→Act→World→Prop) (R:Act→World→Prop):Exit→Act→World→Prop
 | .normal,a,w=>R a w
 | e,a,w=>Q e a w
theorem wp_upTo {Q:Exit→Act→World→Prop} {R:Act→World→Prop} {o:Oper} {a:Act} {w:World} {K:Act→World→Prop} (hh:o.wp P a w K (upTo Q R)):o.wp P a w K Q:=by
 unfold Oper.wp at *
 generalize (execOp a.eval o).run P w=r at *
 cases r with
 | ok n w' =>
   cases n <;> simp only [Oper.upon] at hh ⊢ <;>
     first
       | exact hh
       | exact Calls.mono hh (fun e w'' he=>by cases e <;> exact he)
       | exact Rows.mono hh (fun _ _ he=>he)
 | halt x w' => cases x <;> simp only [Oper.upon] at hh ⊢ <;> exact hh
theorem wpAny_middle {Q:Exit→Act→World→Prop} {f e:Nat} {R:Act→World→Prop} (hR:∀ s a w,Region.lexFrom md ops f e s=true→R a w→wpAny P md ops Q f s a w) :
   ∀ (l:List Oper) (k:Nat) (s:Array Bool) (a:Act) (w:World),(∀ j,j < l.length→l[j]? = ops[k+j]?)→k+l.length=e →
   midB md ops f l.length k s=true→wpList P ops (upTo Q R) l a w→wpAny P md ops Q (l.length+f) s a w
 | [],k,s,a,w,_,hk,hB,h=>by
   have e1:k=e:=hk
   rw [e1] at hB
   rw [List.length_nil,Nat.zero_add]
   exact hR s a w hB h
 | o :: l,k,s,a,w,hl,hk,hB,h=>by
   have h0:ops[k]? = some o:=(hl 0 (Nat.zero_lt_succ _)).symm
   simp only [List.length_cons,midB,Bool.and_eq_true,decide_eq_true_eq] at hB
   rw [show (o :: l).length+f=(l.length+f)+1 by simp only [List.length_cons];omega]
   refine ⟨fun h1=>(by rw [hB.1] at h1;cases h1),fun i hi=>?_⟩
   rw [hB.1] at hi
   have hik:i=k:=by simpa using hi
   subst hik
   have hw:wpOp P ops Q i (wpList P ops (upTo Q R) l) a w:=by
     unfold wpOp
     simp only [h0]
     unfold wpList at h
     split
     · rename_i hwt
       rw [if_pos hwt] at h
       exact h.imp wp_upTo id
     · rename_i hwt
       rw [if_neg hwt] at h
       exact h
   refine wpOp_mono (fun a' w' h' => wpAny_middle hR l (i+1) _ a' w' (fun j hj=>?_) (by simp only [List.length_cons] at hk;omega) hB.2 h') hw
   have:=hl (j+1) (by simp only [List.length_cons];omega)
   rw [List.getElem?_cons_succ] at this
   rw [this,Nat.add_assoc,Nat.add_comm 1 j]
theorem wp_region_mid {id:Nat} {Q:Exit→Act→World→Prop} {a:Act} {w:World} {l:List Oper} (n m:Nat) (hm:P.follows .mixedOrders=true) (hB:midAllB .any l.toArray n m=true)
   (h:wpQuiet P l.toArray (fun w' => ∃ p:Regrown,w'=grow (redrawn w p.d) p.os) (fun a' => ∀ w',(∃ p:Regrown,w'=grow (redrawn w p.d) p.os) →
     wpList P l.toArray (upTo Q (fun a2 w2=>∃ w3,Below w3.heap.size w3 w2∧wpQuiet P l.toArray (fun w' => ∃ p:Regrown,w'=grow (redrawn w3 p.d) p.os) (fun a3=>∀ w',(∃ p:Regrown,w'=grow (redrawn w3 p.d) p.os)→Q .normal a3 w') (l.drop (n+(m+1))) a2)) ((l.drop n).take (m+1)) a' w') (l.take n) a):(Code.region id l.toArray true).wp P Q a w:=by
 simp only [midAllB,Bool.and_eq_true,decide_eq_true_eq] at hB
 obtain ⟨⟨⟨⟨hsel,hn⟩,hs⟩,hc⟩,hlex⟩:=hB
 have hsz:l.toArray.size=l.length:=by simp
 rw [hsz] at hn hlex
 have htl:(l.take n).length=n:=by rw [List.length_take];omega
 have hml:((l.drop n).take (m+1)).length=m+1:=by rw [List.length_take,List.length_drop];omega
 have hrl:(l.drop (n+(m+1))).length=l.length - n - (m+1):=by rw [List.length_drop];omega
 have inv0:HeadInv .any l.toArray n (Array.replicate l.length false):=
   ⟨by simp,fun j oj _ hl=>absurd hl (by rw [getD_replicate_false];decide),fun t _ ht=>getD_in (by simpa using ht) (getD_replicate_false _ _)⟩
 have H:=headQ_mid (md:=.any) (m:=m) (f:=l.length - n - (m+1)) hsel hs hc (by rw [hsz];omega) (l.take n) 0 _ a (fun j hj=>by
   have hj':j < n:=by rw [htl] at hj;exact hj
   simp [hj']) (by rw [htl,Nat.zero_add]) inv0 (by rw [htl];exact hlex) h
 refine wp_region_any hm ?_
 have T:=wpAny_headQ (Q:=Q) (g:=(m+1)+(l.length - n - (m+1))) (fun s a' w' hw' hL=>by
   have:=wpAny_middle (md:=.any) (Q:=Q) (f:=l.length - n - (m+1)) (e:=n+(m+1)) (fun s a2 w2 hlx hr=>by
     obtain ⟨w3,hb3,hq⟩:=hr
     have hq2:=wpAnyQ_lex (md:=.any) hsel (l.drop (n+(m+1))) (n+(m+1)) s a2 (fun j=>by simp [List.getElem?_drop]) (by rw [hrl];exact hlx) hq
     rw [hrl] at hq2
     exact wpAny_of_quiet (Q:=fun a3=>∀ w',(∃ p:Regrown,w'=grow (redrawn w3 p.d) p.os)→Q .normal a3 w') (fun _ w' hw' h=>h w' hw') _ _ _ _ (regrown_of_below hb3) hq2)
     ((l.drop n).take (m+1)) n s a' w' (fun j hj=>by
       have hj':j < m+1:=by rw [hml] at hj;exact hj
       simp [List.getElem?_drop,hj']) (by rw [hml]) (by first | exact hL.1 | (rw [hml];exact hL.1)) (hL.2 w' hw')
   rwa [hml] at this) _ _ _ _ ⟨⟨w.drawn+1,#[]⟩,by first | (rw [grow_empty];done) | (rw [grow_empty];rfl)⟩ H
 rw [htl,show n+((m+1)+(l.length - n - (m+1)))=l.length by omega] at T
 rw [hsz]
 exact T
end
end Go.Proofs.YtejfiegmdllfbaaGreatDoor.Kl
