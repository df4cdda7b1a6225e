import Derived.Test.YtpiiclmkbplkhaaGreatDoorKlBFreeZ
namespace Go.Proofs.YtpiiclmkbplkhaaGreatDoor.Kl
open Go Go.Sort Go.RowKit
set_option maxRecDepth 100000
set_option maxHeartbeats 8000000
def Since (a b:World):Prop:=Below a.heap.size a b
section
variable {P:Program} {ops:Array Oper} {md:Region.Mode} {w0:World}
def YB (P:Program) (ops:Array Oper) (w0:World) (o:Oper) (v:Value) (a:Act):Prop:=
 (Region.wanted o (yielded ops a.tmps)=true∧∀ p:Regrown,o.quietAt P a (Since (grow (redrawn w0 p.d) p.os)) (grow (redrawn w0 p.d) p.os) v) ∨
 (Region.wanted o (yielded ops a.tmps)=false∧v=undef)
def wpB (P:Program) (ops:Array Oper) (w0:World) (Q:Act→Prop):List Oper→Act→Prop
 | [],a=>Q a
 | o :: rest,a=>if Region.wanted o (yielded ops a.tmps) then ∃ v,(∀ p:Regrown,o.quietAt P a (Since (grow (redrawn w0 p.d) p.os)) (grow (redrawn w0 p.d) p.os) v)∧wpB P ops w0 Q rest (a.put o.dst v) else wpB P ops w0 Q rest (a.put o.dst undef)
theorem wpB_nil {Q:Act→Prop} {a:Act} (h:Q a):wpB P ops w0 Q [] a:=h
theorem wpB_step {Q:Act→Prop} {a:Act} {o:Oper} {rest:List Oper}
   (h:∀ K:Act→Prop,(∀ a,wpB P ops w0 Q rest a→K a)→if Region.wanted o (yielded ops a.tmps) then ∃ v,(∀ p:Regrown,o.quietAt P a (Since (grow (redrawn w0 p.d) p.os)) (grow (redrawn w0 p.d) p.os) v)∧K (a.put o.dst v) else K (a.put o.dst undef)):wpB P ops w0 Q (o :: rest) a:=
 h _ (fun _ h=>h)
theorem YB.of_same {o:Oper} {v:Value} {a a':Act} (hy:YB P ops w0 o v a) (he:execOp a'.eval o=execOp a.eval o)
   (hw:Region.wanted o (yielded ops a'.tmps)=Region.wanted o (yielded ops a.tmps)):YB P ops w0 o v a':=by
 unfold YB Oper.quietAt at *
 rw [he,hw]
 exact hy
def qB (P:Program) (ops:Array Oper) (w0:World) (i:Nat) (K:Act→Prop) (a:Act):Prop:=∃ o v,ops[i]? = some o∧YB P ops w0 o v a∧K (a.put o.dst v)
theorem setN_comm (β:Lay) {i j:Nat} (x y:Nat × Bool) (h:i≠j):setN (setN β i x) j y=setN (setN β j y) i x:=by
 funext k
 unfold setN
 by_cases h1:k=j
 · by_cases h2:k=i
   · exact absurd (h2.symm.trans h1) h
   · rw [if_pos h1,if_neg h2,if_pos h1]
 · rw [if_neg h1,if_neg h1]
theorem since_block {w w':World} {k:Nat} {o:Obj} (hk:Below w.heap.size w w') (h:w.heap[k]? = some o):w'.heap[k]? = some o:=by
 rw [hk.block k (Array.getElem?_eq_some_iff.1 h).1];exact h
theorem Cl.since {ob fin:Nat→Obj} {β:Lay} {w w':World} (h:Cl w0 ob fin β w) (hs:Since w w'):Cl w0 ob fin β w':=
 ⟨h.below.trans (Below.mono hs h.below.size),fun i B d hB=>⟨(h.blk i B d hB).1,since_block hs (h.blk i B d hB).2⟩,h.ne⟩
theorem Cl.wrote {ob fin:Nat→Obj} {β:Lay} {w w':World} {i B:Nat} {d:Bool} (h:Cl w0 ob fin β w) (hB:β i=some (B,d)) (hw:Wrote w B (fin i) w'):Cl w0 ob fin (setN β i (B,true)) w':=by
 have hb:=(h.blk i B d hB).1
 refine ⟨⟨hw.os.trans h.below.os,hw.tape.trans h.below.tape,hw.output.trans h.below.output,by rw [hw.size];exact h.below.size,fun k hk=>(hw.other k (by omega)).trans (h.below.block k hk)⟩,fun j A e hA=>?_,fun j k A C e f hjk hA hC=>?_⟩
 · by_cases hj:j=i
   · rw [hj,setN_at] at hA
     injection hA with hA
     injection hA with hA he
     rw [← hA,← he,hj]
     exact ⟨hb,hw.here⟩
   · rw [setN_ne _ _ hj] at hA
     have h2:=h.blk j A e hA
     exact ⟨h2.1,(hw.other A (h.ne j i A B e d hj hA hB)).trans h2.2⟩
 · by_cases hj:j=i
   · rw [hj,setN_at] at hA
     injection hA with hA
     injection hA with hA he
     rw [setN_ne _ _ (fun e=>hjk (hj.trans e.symm))] at hC
     rw [← hA]
     exact h.ne i k B C d f (fun e=>hjk (hj.trans e)) hB hC
   · rw [setN_ne _ _ hj] at hA
     by_cases hk:k=i
     · rw [hk,setN_at] at hC
       injection hC with hC
       injection hC with hC hf
       rw [← hC]
       exact h.ne j i A B e d hj hA hB
     · rw [setN_ne _ _ hk] at hC
       exact h.ne j k A C e f hjk hA hC
def Lays (P:Program) (ops:Array Oper) (ob:Nat→Obj) (m n:Nat):Prop:=
 ∀ i,m≤i→i < n→∃ o,ops[i]? = some o∧o.guard=none∧∀ (a:Act) (w:World),(execOp a.eval o).run P w = .ok (.value (Value.pointer (some ⟨w.heap.size,0,none⟩))) (w.alloc (ob i))
def dstOf (ops:Array Oper) (i:Nat):Option Tmp:=(ops[i]?).bind (·.dst)
theorem dstOf_eq {i:Nat} {o:Oper} (h:ops[i]? = some o):dstOf ops i=o.dst:=by unfold dstOf;rw [h];rfl
def storeOK (P:Program) (ops:Array Oper) (ob fin:Nat→Obj) (k i:Nat) (a:Act) (B:Nat):Prop:=
 ∃ o,ops[i]? = some o∧o.dst=none∧o.guard=none∧(∀ cs b,o.op ≠ .select cs b)∧∀ w:World,w.heap[B]? = some (ob (i - k))→∃ w',(execOp a.eval o).run P w = .ok .skip w'∧Wrote w B (fin (i - k)) w'
def freeF (P:Program) (md:Region.Mode) (ops:Array Oper) (w0:World) (ob fin:Nat→Obj) (m n:Nat) (L:Act→Lay→Prop):Nat→Array Bool→Act→Lay→Prop
 | 0,s,a,β=>Region.ready md ops s=[]∧L a β
 | f + 1,s,a,β=>Region.ready md ops s≠[]∧∀ i ∈ Region.ready md ops s,
     (i < m→qB P ops w0 i (fun a' => freeF P md ops w0 ob fin m n L f (s.setIfInBounds i true) a' β) a) ∧
     (m≤i→i < n→∀ B,freeF P md ops w0 ob fin m n L f (s.setIfInBounds i true) (a.put (dstOf ops i) (Value.pointer (some ⟨B,0,none⟩))) (setN β i (B,false))) ∧
     (n≤i→i < n+(n - m)→∃ B,β (i - (n - m))=some (B,false)∧storeOK P ops ob fin (n - m) i a B∧freeF P md ops w0 ob fin m n L f (s.setIfInBounds i true) a (setN β (i - (n - m)) (B,true))) ∧
     (n+(n - m)≤i→qB P ops w0 i (fun a' => freeF P md ops w0 ob fin m n L f (s.setIfInBounds i true) a' β) a)
theorem quietAt_wp {o:Oper} {a:Act} {v:Value} {w:World} {K':Act→World→Prop} {Q':Exit→Act→World→Prop} (h3:o.quietAt P a (Since w) w v) (h:∀ w',Since w w'→K' (a.put o.dst v) w'):o.wp P a w K' Q':=by
 unfold Oper.quietAt at h3
 unfold Oper.wp
 generalize (execOp a.eval o).run P w=r at *
 cases r with
 | ok n w' =>
   cases n <;> simp only [Oper.quietUpon] at h3 <;> simp only [Oper.upon]
   case value u =>
     obtain ⟨e1,e2⟩:=h3
     rw [e1,e2]
     exact h _ (Below.refl _ _)
   case skip =>
     obtain ⟨e1,e2⟩:=h3
     rw [e1,← e2]
     exact h _ (Below.refl _ _)
   case enter f args =>
     obtain ⟨e1,hc⟩:=h3
     rw [e1]
     exact hc.mono fun e w'' ⟨he,hw''⟩=>by subst he;exact h _ hw''
 | halt x w' => simp only [Oper.quietUpon] at h3
theorem wpOp_qB {i:Nat} {a:Act} {K:Act→Prop} {K':Act→World→Prop} {Q':Exit→Act→World→Prop} {w:World} (hw:Below w0.heap.size w0 w) (hh:qB P ops w0 i K a)
   (h:∀ a' w',Since w w'→K a'→K' a' w'):wpOp P ops Q' i K' a w:=by
 obtain ⟨o,v,ho,hy,hK⟩:=hh
 unfold wpOp
 rw [ho]
 dsimp only
 rcases hy with ⟨hwt,hq⟩ | ⟨hwt,rfl⟩
 · obtain ⟨p,hp⟩:=regrown_of_below hw
   rw [if_pos hwt]
   refine .inl (quietAt_wp (by rw [hp];exact hq p) fun w' hs=>h _ _ hs hK)
 · rw [if_neg (by rw [hwt];decide)]
   exact h _ _ (Below.refl _ _) hK
theorem wanted_none {o:Oper} (h:o.guard=none) (a:Act):Region.wanted o (yielded ops a.tmps)=true:=by
 unfold Region.wanted
 rw [h]
theorem wpAny_freeF {m n:Nat} {ob fin:Nat→Obj} {L:Act→Lay→Prop} {Q:Exit→Act→World→Prop} (hlay:Lays P ops ob m n)
   (hL:∀ a β w,Cl w0 ob fin β w→L a β→Q .normal a w) :
   ∀ (f:Nat) (s:Array Bool) (a:Act) (β:Lay) (w:World),Cl w0 ob fin β w→freeF P md ops w0 ob fin m n L f s a β→wpAny P md ops Q f s a w
 | 0,_,_,_,_,hw,h=>⟨h.1,hL _ _ _ hw h.2⟩
 | f + 1,s,a,β,w,hw,h=>by
   refine ⟨fun h0=>absurd h0 h.1,fun i hi=>?_⟩
   obtain ⟨h1,h2,h3,h4⟩:=h.2 i hi
   rcases Nat.lt_or_ge i m with him | him
   · exact wpOp_qB hw.below (h1 him) fun a' w' hs hK=>wpAny_freeF hlay hL f _ a' β w' (hw.since hs) hK
   · rcases Nat.lt_or_ge i n with hin | hin
     · obtain ⟨o,ho,hg,hex⟩:=hlay i him hin
       unfold wpOp
       rw [ho]
       dsimp only
       rw [if_pos (wanted_none hg a)]
       refine .inl ?_
       unfold Oper.wp
       rw [hex a w]
       simp only [Oper.upon]
       have:=wpAny_freeF hlay hL f _ _ _ _ (hw.alloc i) (h2 him hin w.heap.size)
       rwa [dstOf_eq ho] at this
     · rcases Nat.lt_or_ge i (n+(n - m)) with hit | hit
       case inr=>exact wpOp_qB hw.below (h4 hit) fun a' w' hs hK=>wpAny_freeF hlay hL f _ a' β w' (hw.since hs) hK
       obtain ⟨B,hB,⟨o,ho,hd,hg,_,hex⟩,hK⟩:=h3 hin hit
       obtain ⟨w',hr,hwr⟩:=hex w (hw.blk _ _ _ hB).2
       unfold wpOp
       rw [ho]
       dsimp only
       rw [if_pos (wanted_none hg a)]
       refine .inl ?_
       unfold Oper.wp
       rw [hr]
       simp only [Oper.upon]
       have:=wpAny_freeF hlay hL f _ _ _ _ (hw.wrote hB hwr) hK
       rw [hd]
       exact this
def Region.stB (md:Region.Mode) (ops:Array Oper) (m n:Nat):Bool:=
 (List.range ops.size).all fun j=>decide (j < n) ||
   if j < n+(n - m) then Region.waitsFor md ops j (j - (n - m))
   else (List.range (n+(n - m))).all fun i=>Region.waitsFor md ops j i || (List.range (n+(n - m))).any fun k=>decide (i < k) && Region.waitsFor md ops k i
theorem waits_listed {s:Array Bool} {j i:Nat} (hr:j ∈ Region.ready md ops s) (h:Region.waitsFor md ops j i=true):s.getD i false=true:=by
 obtain ⟨oj,hoj,e,he,hb,hon⟩:=Region.waitsFor_spec h
 obtain ⟨_,o,ho,hall⟩:=mem_ready.1 hr
 have eo:o=oj:=Option.some.inj (ho.symm.trans hoj)
 rw [eo] at hall
 rw [← hon]
 exact hall e he hb
theorem down_listed {s:Array Bool} {T:Nat} (inv:HeadInv md ops ops.size s) {j:Nat} (hj:j ∈ Region.ready md ops s)
   (h3:∀ i,i ∈ List.range T→(Region.waitsFor md ops j i || (List.range T).any fun k=>decide (i < k) && Region.waitsFor md ops k i)=true):∀ i,i < T→s.getD i false=true:=by
 have key:∀ (d i:Nat),T - i=d→i < T→s.getD i false=true:=by
   intro d
   induction d using Nat.strongRecOn with
   | _ d ih =>
     intro i hd hi
     have h4:=h3 i (List.mem_range.2 hi)
     rw [Bool.or_eq_true] at h4
     rcases h4 with h4 | h4
     · exact waits_listed hj h4
     · obtain ⟨k,hk,h5⟩:=List.any_eq_true.1 h4
       rw [Bool.and_eq_true,decide_eq_true_eq] at h5
       have hk':=List.mem_range.1 hk
       have hl:=ih (T - k) (by omega) k rfl hk'
       obtain ⟨ok,hok,e,he,hb,hon⟩:=Region.waitsFor_spec h5.2
       have:=inv.closed k ok hok hl e he hb
       rwa [hon] at this
 exact fun i hi=>key _ i rfl hi
theorem store_after {m n:Nat} {s:Array Bool} (hB:Region.stB md ops m n=true) (inv:HeadInv md ops ops.size s) {j:Nat} (hj:j ∈ Region.ready md ops s) (hn:n≤j) (hlt:j < ops.size) :
   (j < n+(n - m)→s.getD (j - (n - m)) false=true)∧(n+(n - m)≤j→∀ i,i < n→s.getD i false=true):=by
 have h1:=List.all_eq_true.1 hB j (List.mem_range.2 hlt)
 rw [Bool.or_eq_true] at h1
 have h2:=h1.resolve_left (by simp;omega)
 by_cases ht:j < n+(n - m)
 · rw [if_pos ht] at h2
   exact ⟨fun _=>waits_listed hj h2,fun h=>absurd h (by omega)⟩
 · rw [if_neg ht] at h2
   have h3:=down_listed inv hj (List.all_eq_true.1 h2)
   exact ⟨fun h=>absurd h ht,fun _ i hi=>h3 i (by omega)⟩
theorem ready_lt {s:Array Bool} {j:Nat} (hj:j ∈ Region.ready md ops s):j < ops.size:=by
 obtain ⟨_,o,ho,_⟩:=mem_ready.1 hj
 exact (Array.getElem?_eq_some_iff.1 ho).1
theorem freeF_q {m n i:Nat} {ob fin:Nat→Obj} {L:Act→Lay→Prop} {oi:Oper} {v:Value} (hi:ops[i]? = some oi) (him:i < m) (hmn:m≤n)
   (hsel:∀ (j:Nat) (o:Oper) cs b,ops[j]? = some o→o.op ≠ .select cs b) (hst:Region.stB md ops m n=true) :
   ∀ (f:Nat) (s:Array Bool) (a:Act) (β:Lay),HeadInv md ops ops.size s →
     (∀ j oj,ops[j]? = some oj→j≠i→s.getD j true=false→(∀ e ∈ oj.after,Region.binds md e=true→e.on≠i)→oi.apart ops oj=true) →
     i ∈ Region.ready md ops s→YB P ops w0 oi v a→freeF P md ops w0 ob fin m n L f (s.setIfInBounds i true) (a.put oi.dst v) β→freeF P md ops w0 ob fin m n L (f+1) s a β:=by
 intro f
 induction f with
 | zero =>
   intro s a β inv _ hr hy H
   refine ⟨List.ne_nil_of_mem hr,fun j hj=>?_⟩
   by_cases hji:j=i
   · rw [hji]
     exact ⟨fun _=>⟨oi,v,hi,hy,H⟩,fun h=>absurd h (by omega),fun h=>absurd h (by omega),fun h=>absurd h (by omega)⟩
   · have:=ready_mono hj hji
     rw [H.1] at this
     cases this
 | succ f ih =>
   intro s a β inv hfree hr hy H
   have hun:=(mem_ready.1 hr).1
   refine ⟨List.ne_nil_of_mem hr,fun j hj=>?_⟩
   by_cases hji:j=i
   · rw [hji]
     exact ⟨fun _=>⟨oi,v,hi,hy,H⟩,fun h=>absurd h (by omega),fun h=>absurd h (by omega),fun h=>absurd h (by omega)⟩
   · obtain ⟨hjun,oj,hoj,hall⟩:=mem_ready.1 hj
     have hjlt:=ready_lt hj
     have hnot:∀ e ∈ oj.after,Region.binds md e=true→e.on≠i:=fun e he hb heq=>by
       have h0:=hall e he hb
       rw [heq,getD_both hun] at h0
       exact absurd h0 (by decide)
     have hap:=hfree j oj hoj hji hjun hnot
     obtain ⟨p1,p2,p3⟩:=Oper.apart_spec hap
     have hsi:=fun cs b=>hsel i oi cs b hi
     have hsj:=fun cs b=>hsel j oj cs b hoj
     have keep:∀ u,YB P ops w0 oi v (a.put oj.dst u):=fun u=>hy.of_same (execOp_put oi hsi a oj.dst u p3) (wanted_put oi a oj.dst u p3)
     have hfree':∀ k ok,ops[k]? = some ok→k≠i→(s.setIfInBounds j true).getD k true=false→(∀ e ∈ ok.after,Region.binds md e=true→e.on≠i)→oi.apart ops ok=true:=fun k ok hk hki hk0 hno=>by
       refine hfree k ok hk hki ?_ hno
       by_cases hjk:j=k
       · rw [← hjk];exact hjun
       · rw [getD_set_ne true hjk] at hk0;exact hk0
     have hj2:=H.2 j (ready_mono hj hji)
     have inv':=inv.set hj hjlt
     have hr':=ready_mono hr (Ne.symm hji)
     refine ⟨fun hjm=>?_,fun hmj hjn B=>?_,fun hnj hjt=>?_,fun hnj=>?_⟩
     · obtain ⟨o,u,ho,hyj,hK⟩:=hj2.1 hjm
       obtain rfl:o=oj:=Option.some.inj (ho.symm.trans hoj)
       refine ⟨o,u,ho,hyj.of_same (execOp_put o hsj a oi.dst v p1).symm (wanted_put o a oi.dst v p1).symm,ih _ _ _ inv' hfree' hr' (keep u) ?_⟩
       rw [Array.setIfInBounds_comm _ _ hji,← Act.put_comm a v u p2]
       exact hK
     · have hK:=hj2.2.1 hmj hjn B
       rw [dstOf_eq hoj] at hK ⊢
       refine ih _ _ _ inv' hfree' hr' (keep _) ?_
       rw [Array.setIfInBounds_comm _ _ hji,← Act.put_comm a v _ p2]
       exact hK
     · obtain ⟨C,hC,⟨o,ho,hd,hg,hs2,hex⟩,hK⟩:=hj2.2.2.1 hnj hjt
       obtain rfl:o=oj:=Option.some.inj (ho.symm.trans hoj)
       refine ⟨C,hC,⟨o,ho,hd,hg,hs2,fun w hw=>?_⟩,?_⟩
       · have:=hex w hw
         rwa [execOp_put o hsj a oi.dst v p1] at this
       · refine ih _ _ _ inv' hfree' hr' hy ?_
         rw [Array.setIfInBounds_comm _ _ hji]
         exact hK
     · have:=(store_after hst inv hj (by omega) hjlt).2 hnj i (by omega)
       rw [getD_both hun] at this
       exact absurd this (by decide)
theorem freeF_a {m n i:Nat} {ob fin:Nat→Obj} {L:Act→Lay→Prop} {oi:Oper} (hi:ops[i]? = some oi) (him:m≤i) (hin:i < n)
   (hsel:∀ (j:Nat) (o:Oper) cs b,ops[j]? = some o→o.op ≠ .select cs b) (hst:Region.stB md ops m n=true) :
   ∀ (f:Nat) (s:Array Bool) (a:Act) (β:Lay),HeadInv md ops ops.size s→(∀ j,j < m→s.getD j false=true) →
     (∀ j oj,ops[j]? = some oj→j≠i→s.getD j true=false→(∀ e ∈ oj.after,Region.binds md e=true→e.on≠i)→oi.apart ops oj=true) →
     i ∈ Region.ready md ops s→(∀ B,freeF P md ops w0 ob fin m n L f (s.setIfInBounds i true) (a.put oi.dst (Value.pointer (some ⟨B,0,none⟩))) (setN β i (B,false)))→freeF P md ops w0 ob fin m n L (f+1) s a β:=by
 intro f
 induction f with
 | zero =>
   intro s a β inv _ _ hr H
   refine ⟨List.ne_nil_of_mem hr,fun j hj=>?_⟩
   by_cases hji:j=i
   · rw [hji]
     exact ⟨fun h=>absurd h (by omega),fun _ _ B=>by rw [dstOf_eq hi];exact H B,fun h=>absurd h (by omega),fun h=>absurd h (by omega)⟩
   · have:=ready_mono hj hji
     rw [(H 0).1] at this
     cases this
 | succ f ih =>
   intro s a β inv hq hfree hr H
   have hun:=(mem_ready.1 hr).1
   refine ⟨List.ne_nil_of_mem hr,fun j hj=>?_⟩
   by_cases hji:j=i
   · rw [hji]
     exact ⟨fun h=>absurd h (by omega),fun _ _ B=>by rw [dstOf_eq hi];exact H B,fun h=>absurd h (by omega),fun h=>absurd h (by omega)⟩
   · obtain ⟨hjun,oj,hoj,hall⟩:=mem_ready.1 hj
     have hjlt:=ready_lt hj
     have hnot:∀ e ∈ oj.after,Region.binds md e=true→e.on≠i:=fun e he hb heq=>by
       have h0:=hall e he hb
       rw [heq,getD_both hun] at h0
       exact absurd h0 (by decide)
     have hap:=hfree j oj hoj hji hjun hnot
     obtain ⟨p1,p2,p3⟩:=Oper.apart_spec hap
     have hsj:=fun cs b=>hsel j oj cs b hoj
     have hfree':∀ k ok,ops[k]? = some ok→k≠i→(s.setIfInBounds j true).getD k true=false→(∀ e ∈ ok.after,Region.binds md e=true→e.on≠i)→oi.apart ops ok=true:=fun k ok hk hki hk0 hno=>by
       refine hfree k ok hk hki ?_ hno
       by_cases hjk:j=k
       · rw [← hjk];exact hjun
       · rw [getD_set_ne true hjk] at hk0;exact hk0
     have inv':=inv.set hj hjlt
     have hr':=ready_mono hr (Ne.symm hji)
     have hq':∀ k,k < m→(s.setIfInBounds j true).getD k false=true:=fun k hk=>getD_set_true (hq k hk)
     refine ⟨fun hjm=>?_,fun hmj hjn A=>?_,fun hnj hjt=>?_,fun hjt=>?_⟩
     · have:=hq j hjm
       rw [getD_both hjun] at this
       exact absurd this (by decide)
     · rw [dstOf_eq hoj]
       refine ih _ _ _ inv' hq' hfree' hr' fun B=>?_
       have hK:=((H B).2 j (ready_mono hj hji)).2.1 hmj hjn A
       rw [dstOf_eq hoj] at hK
       rw [Array.setIfInBounds_comm _ _ hji,← Act.put_comm a (Value.pointer (some ⟨B,0,none⟩)) _ p2,← setN_comm β _ _ (Ne.symm hji)]
       exact hK
     · have hal:j - (n - m)≠i:=fun e=>by
         have:=(store_after hst inv hj hnj hjlt).1 hjt
         rw [e,getD_both hun] at this
         exact absurd this (by decide)
       obtain ⟨C,hC,⟨o,ho,hd,hg,hs2,hex⟩,_⟩:=((H 0).2 j (ready_mono hj hji)).2.2.1 hnj hjt
       rw [setN_ne _ _ hal] at hC
       obtain rfl:o=oj:=Option.some.inj (ho.symm.trans hoj)
       refine ⟨C,hC,⟨o,ho,hd,hg,hs2,fun w hw=>?_⟩,?_⟩
       · have:=hex w hw
         rwa [execOp_put o hsj a oi.dst _ p1] at this
       · refine ih _ _ _ inv' hq' hfree' hr' fun B=>?_
         obtain ⟨D,hD,_,hK⟩:=((H B).2 j (ready_mono hj hji)).2.2.1 hnj hjt
         rw [setN_ne _ _ hal,hC] at hD
         injection hD with hD
         injection hD with hD _
         rw [← hD] at hK
         rw [Array.setIfInBounds_comm _ _ hji,← setN_comm β _ _ (Ne.symm hal)]
         exact hK
     · have:=(store_after hst inv hj (by omega) hjlt).2 hjt i hin
       rw [getD_both hun] at this
       exact absurd this (by decide)
def lexS (P:Program) (ops:Array Oper) (ob fin:Nat→Obj) (k:Nat) (L:Act→Lay→Prop):Nat→Nat→Act→Lay→Prop
 | 0,_,a,β=>L a β
 | c+1,i,a,β=>∃ B,β (i - k)=some (B,false)∧storeOK P ops ob fin k i a B∧lexS P ops ob fin k L c (i+1) a (setN β (i - k) (B,true))
def lexA (ops:Array Oper) (K:Act→Lay→Prop):Nat→Nat→Act→Lay→Prop
 | 0,_,a,β=>K a β
 | c+1,i,a,β=>∀ B,lexA ops K c (i+1) (a.put (dstOf ops i) (Value.pointer (some ⟨B,0,none⟩))) (setN β i (B,false))
def lexT (P:Program) (ops:Array Oper) (w0:World) (L:Act→Prop):Nat→Nat→Act→Prop
 | 0,_,a=>L a
 | t+1,i,a=>qB P ops w0 i (fun a' => lexT P ops w0 L t (i+1) a') a
theorem freeF_trail {m n:Nat} {ob fin:Nat→Obj} {L:Act→Lay→Prop} (hmn:m≤n) (β:Lay):∀ (t i:Nat) (s:Array Bool) (a:Act),n+(n - m)≤i →
   Region.seqB md ops t i s=true→lexT P ops w0 (fun a=>L a β) t i a→freeF P md ops w0 ob fin m n L t s a β
 | 0,_,_,_,_,hB,h=>⟨by simpa [Region.seqB] using hB,h⟩
 | t+1,i,s,a,hi,hB,h=>by
   simp only [Region.seqB,Bool.and_eq_true,decide_eq_true_eq] at hB
   refine ⟨by rw [hB.1];simp,fun j hj=>?_⟩
   rw [hB.1] at hj
   obtain rfl:j=i:=by simpa using hj
   obtain ⟨o,v,ho,hy,hK⟩:=h
   exact ⟨fun h=>absurd h (by omega),fun _ h=>absurd h (by omega),fun _ h=>absurd h (by omega),fun _=>⟨o,v,ho,hy,freeF_trail hmn β t (j+1) _ _ (by omega) hB.2 hK⟩⟩
theorem freeF_seq {m n t:Nat} {ob fin:Nat→Obj} {L:Act→Lay→Prop} (hmn:m≤n):∀ (c i:Nat) (s:Array Bool) (a:Act) (β:Lay),n≤i→i+c=n+(n - m) →
   Region.seqB md ops (c+t) i s=true→lexS P ops ob fin (n - m) (fun a β=>lexT P ops w0 (fun a=>L a β) t (n+(n - m)) a) c i a β→freeF P md ops w0 ob fin m n L (c+t) s a β
 | 0,i,s,a,β,_,hc,hB,h=>by
   rw [Nat.zero_add] at hB ⊢
   have e:i=n+(n - m):=hc
   rw [e] at hB
   exact freeF_trail hmn β t _ s a (Nat.le_refl _) hB h
 | c+1,i,s,a,β,hi,hc,hB,h=>by
   rw [show c+1+t=(c+t)+1 by omega] at hB ⊢
   simp only [Region.seqB,Bool.and_eq_true,decide_eq_true_eq] at hB
   obtain ⟨B,hβ,hs,hK⟩:=h
   refine ⟨by rw [hB.1];simp,fun j hj=>?_⟩
   rw [hB.1] at hj
   obtain rfl:j=i:=by simpa using hj
   exact ⟨fun h=>absurd h (by omega),fun _ h=>absurd h (by omega),fun _ _=>⟨B,hβ,hs,freeF_seq hmn c (j+1) _ _ _ (by omega) (by omega) hB.2 hK⟩,fun h=>absurd h (by omega)⟩
theorem freeF_lexA {m n t:Nat} {ob fin:Nat→Obj} {L:Act→Lay→Prop} (hmn:m≤n) (hsel:Region.noSelect ops=true) (hst:Region.stB md ops m n=true) (hn:n≤ops.size) :
   ∀ (c i:Nat) (s:Array Bool) (a:Act) (β:Lay),i+c=n→m≤i→HeadInv md ops ops.size s→(∀ j,j < m→s.getD j false=true) →
   Region.lexHead md ops ((n - m)+t) c i s=true→lexA ops (fun a β=>lexS P ops ob fin (n - m) (fun a β=>lexT P ops w0 (fun a=>L a β) t (n+(n - m)) a) (n - m) n a β) c i a β→freeF P md ops w0 ob fin m n L (c+((n - m)+t)) s a β
 | 0,i,s,a,β,hc,_,_,_,hB,h=>by
   rw [Nat.zero_add]
   have e:i=n:=by omega
   rw [e] at hB
   exact freeF_seq hmn (n - m) n s a β (Nat.le_refl _) rfl (by simpa [Region.lexHead] using hB) h
 | c+1,i,s,a,β,hc,hmi,inv,hq,hB,h=>by
   simp only [Region.lexHead,Bool.and_eq_true] at hB
   have hlt:i < ops.size:=by omega
   obtain ⟨oi,hoi⟩:∃ o,ops[i]? = some o:=⟨ops[i],Array.getElem?_eq_getElem hlt⟩
   have hr:i ∈ Region.ready md ops s:=List.contains_iff_mem.1 hB.1.1
   rw [show c+1+((n - m)+t)=(c+((n - m)+t))+1 by omega]
   refine freeF_a hoi hmi (by omega) (Region.noSelect_spec hsel) hst _ _ _ _ inv hq (Region.free_spec hoi hB.1.2) hr fun B=>?_
   have:=h B
   rw [dstOf_eq hoi] at this
   exact freeF_lexA hmn hsel hst hn c (i+1) _ _ _ (by omega) (by omega) (inv.set hr hlt) (fun j hj=>getD_set_true (hq j hj)) hB.2 this
theorem freeF_lexQ {m n t c:Nat} {ob fin:Nat→Obj} {L:Act→Lay→Prop} (hmn:m+c=n) (hsel:Region.noSelect ops=true) (hst:Region.stB md ops m n=true) (hn:n≤ops.size) (β:Lay) :
   ∀ (l:List Oper) (k:Nat) (s:Array Bool) (a:Act),(∀ j,j < l.length→l[j]? = ops[k+j]?)→k+l.length=m→HeadInv md ops ops.size s→(∀ j,j < k→s.getD j false=true) →
   Region.lexHead md ops ((n - m)+t) (l.length+c) k s=true→wpB P ops w0 (fun a=>lexA ops (fun a β=>lexS P ops ob fin (n - m) (fun a β=>lexT P ops w0 (fun a=>L a β) t (n+(n - m)) a) (n - m) n a β) c m a β) l a→freeF P md ops w0 ob fin m n L (l.length+c+((n - m)+t)) s a β
 | [],k,s,a,_,hk,inv,hq,hB,h=>by
   have e:k=m:=hk
   rw [e] at hB hq
   rw [List.length_nil,Nat.zero_add] at hB ⊢
   exact freeF_lexA (by omega) hsel hst hn c m s a β hmn (Nat.le_refl _) inv hq hB h
 | o :: l,k,s,a,hl,hk,inv,hq,hB,h=>by
   have h0:ops[k]? = some o:=(hl 0 (Nat.zero_lt_succ _)).symm
   have hlt:k < ops.size:=(Array.getElem?_eq_some_iff.1 h0).1
   rw [show (o :: l).length+c=(l.length+c)+1 by simp only [List.length_cons];omega] at hB
   simp only [Region.lexHead,Bool.and_eq_true] at hB
   have hr:k ∈ Region.ready md ops s:=List.contains_iff_mem.1 hB.1.1
   have hkm:k < m:=by simp only [List.length_cons] at hk;omega
   rw [show (o :: l).length+c+((n - m)+t)=(l.length+c+((n - m)+t))+1 by simp only [List.length_cons];omega]
   have hy:∃ v,YB P ops w0 o v a∧wpB P ops w0 (fun a=>lexA ops (fun a β=>lexS P ops ob fin (n - m) (fun a β=>lexT P ops w0 (fun a=>L a β) t (n+(n - m)) a) (n - m) n a β) c m a β) l (a.put o.dst v):=by
     unfold wpB at h
     by_cases hw:Region.wanted o (yielded ops a.tmps)=true
     · rw [if_pos hw] at h
       obtain ⟨v,h1,h2⟩:=h
       exact ⟨v,.inl ⟨hw,h1⟩,h2⟩
     · rw [if_neg hw] at h
       exact ⟨undef,.inr ⟨by simpa using hw,rfl⟩,h⟩
   obtain ⟨v,hy,hK⟩:=hy
   refine freeF_q h0 hkm (by omega) (Region.noSelect_spec hsel) hst _ _ _ _ inv (Region.free_spec h0 hB.1.2) hr hy ?_
   refine freeF_lexQ hmn hsel hst hn β l (k+1) _ _ (fun j hj=>?_) (by simp only [List.length_cons] at hk;omega) (inv.set hr hlt) (fun j hj=>?_) hB.2 hK
   · have:=hl (j+1) (by simp only [List.length_cons];omega)
     rw [List.getElem?_cons_succ] at this
     rw [this,Nat.add_assoc,Nat.add_comm 1 j]
   · by_cases hjk:j=k
     · rw [hjk];simp [Array.getD_eq_getD_getElem?,inv.size,hlt]
     · exact getD_set_true (hq j (by omega))
def Region.freeB (ops:Array Oper) (m c t:Nat):Bool:=
 Region.noSelect ops && decide (m+c+c+t=ops.size) && Region.stB .any ops m (m+c) && Region.lexHead .any ops (c+t) (m+c) 0 (Array.replicate ops.size false)
theorem wp_region_free {id:Nat} {Q:Exit→Act→World→Prop} {a:Act} {w:World} {l:List Oper} (m c t:Nat) (ob fin:Nat→Obj) (hm:P.follows .mixedOrders=true)
   (hB:Region.freeB l.toArray m c t=true) (hlay:Lays P l.toArray ob m (m+c))
   (h:wpB P l.toArray w (fun a=>lexA l.toArray (fun a β=>lexS P l.toArray ob fin c (fun a β=>lexT P l.toArray w (fun a=>∀ w',Cl w ob fin β w'→Q .normal a w') t (m+c+c) a) c (m+c) a β) c m a (fun _=>none)) (l.take m) a):(Code.region id l.toArray true).wp P Q a w:=by
 simp only [Region.freeB,Bool.and_eq_true,decide_eq_true_eq] at hB
 obtain ⟨⟨⟨hsel,hn⟩,hst⟩,hlex⟩:=hB
 have hn':m≤l.length:=by simp at hn;omega
 have htl:(l.take m).length=m:=by rw [List.length_take];omega
 have hd:m+c - m=c:=by omega
 have inv0:HeadInv .any l.toArray l.toArray.size (Array.replicate l.toArray.size false):=
   ⟨by simp,fun j oj _ hl=>absurd hl (by rw [getD_replicate_false];decide),fun t ht ht' => absurd ht (by omega)⟩
 refine wp_region_any hm ?_
 have H:=freeF_lexQ (P:=P) (w0:=w) (md:=.any) (m:=m) (n:=m+c) (t:=t) (c:=c) (ob:=ob) (fin:=fin) (L:=fun a β=>∀ w',Cl w ob fin β w'→Q .normal a w') rfl hsel hst (by omega) (fun _=>none) (l.take m) 0 (Array.replicate l.toArray.size false) a
   (fun j hj=>by
     have hj':j < m:=by rw [htl] at hj;exact hj
     simp [hj']) (by rw [htl,Nat.zero_add]) inv0 (fun j hj=>absurd hj (by omega)) (by rw [htl,hd];exact hlex) (by rw [hd];exact h)
 rw [htl,hd,show m+c+(c+t)=l.toArray.size by omega] at H
 exact wpAny_freeF (w0:=w) (fin:=fin) (L:=fun a β=>∀ w',Cl w ob fin β w'→Q .normal a w') hlay (fun a β w' hw hL=>hL w' hw) _ _ _ (fun _=>none) _ ⟨⟨rfl,rfl,rfl,Nat.le_refl _,fun _ _=>rfl⟩,fun i B d h=>(by cases h),fun i j B A d e _ h=>(by cases h)⟩ H
end
end Go.Proofs.YtpiiclmkbplkhaaGreatDoor.Kl
