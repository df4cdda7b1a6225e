import Derived.Lib.AppendStr
import Derived.Test.YtpiiclmkbplkhaaGreatDoorKlBNumb
namespace Go.Proofs.YtpiiclmkbplkhaaGreatDoor.Kl
open Go Go.RowKit Go.Shelf
set_option maxRecDepth 100000
set_option maxHeartbeats 8000000
attribute [local go_sem] Oper.semAt_some
def KpB (n₀ Bs:Nat) (A B:World):Prop:=Below n₀ A B∧B.heap[Bs]? = A.heap[Bs]?
theorem kpB_t {n₀ Bs:Nat} {A B C:World} (h:KpB n₀ Bs A B) (k:KpB n₀ Bs B C):KpB n₀ Bs A C:=⟨h.1.trans k.1,k.2.trans h.2⟩
theorem kpB_b {n₀ Bs:Nat} {w:World} (hn:n₀≤w.heap.size) (hB:Bs < w.heap.size) (W:World) (l:Nat) (o o':Obj) (hl:w.heap.size≤l) (h:W.heap[l]? = some o) (h1:o.isCells=false) (h2:o.isWalk=false):KpB n₀ Bs W (W.putObj l o'):=
 ⟨belowK_b hn W l o o' hl h h1 h2,World.putObj_heap_other (by omega)⟩
def bl (k t:Nat):List Nat:=(List.range t).map fun i=>k - 1 - i
theorem bl_length (k t:Nat):(bl k t).length=t:=by unfold bl;simp
theorem bl_succ (k t:Nat):bl k (t+1)=bl k t ++ [k - 1 - t]:=by unfold bl;rw [List.range_succ,List.map_append];rfl
theorem backwardk_in (l Bs b o k c n₀:Nat) (xs:List Int) (n:Nat) (_hn:1≤n) (J Jx:List Nat→World→Prop) (hk:k≤1000000) (hb:b < n₀)
   (hY:∀ pre (x:Nat) W1,J pre W1→pre.length < k→YieldAt Fence.wide (n - 1) Tryz.prog l #[Value.int .i64 (x:Int),Value.int .i64 (xs[x]?.getD 0)] W1 fun e W' =>
     (e = .returned (.bool true)∧J (pre ++ [x]) W'∧KpB n₀ Bs W1 W')∨(e = .returned (.bool false)∧Jx (pre ++ [x]) W'))
   (W:World) (hBs:W.cell? ⟨Bs,0,none⟩=some (.slice (some ⟨b,o,none⟩) k c)) (hcell:∀ i,i < k→W.cell? ⟨b,o+i,none⟩=some (.int .i64 (xs[i]?.getD 0))) (h0:J [] W) :
   CallsIn Fence.wide n Tryz.prog 165 #[.func (.yield l) #[] #[],.pointer (some ⟨Bs,0,none⟩)] W fun e W' => (∃ v,e = .returned v) ∧
     ((∃ ys,ys=bl k k∧J ys W')∨(∃ pre:List Nat,True∧Jx pre W')):=by
 have HC:=Lib.hid hcell
 have HY:=Lib.hid hY
 clear hcell hY
 refine callsIn_of_wp Tryz.func165 rfl trivial ?_ rfl
 simp only [Tryz.ntmps165,List.size_toArray,List.length_cons,List.length_nil,Nat.reduceAdd,Nat.reduceSub,Array.replicate_succ,Array.replicate_zero,List.push_toArray,List.append_toArray,List.nil_append,List.cons_append]
 gi_wp2
 gi_loopw [3] (fun i wr=>∃ j:Nat,j≤k∧i = .int .i64 ((j:Int) - 1)∧J (bl k (k - j)) wr∧wr.cell? ⟨Bs,0,none⟩=some (.slice (some ⟨b,o,none⟩) k c)∧∀ i,i < k→wr.cell? ⟨b,o+i,none⟩=some (.int .i64 (xs[i]?.getD 0))) (fun i _=>(intOf i+1).toNat)
 case atStart=>exact ⟨k,Nat.le_refl _,rfl,by rw [Nat.sub_self];exact h0,hBs,HC.out⟩
 case round =>
   obtain ⟨j,hj,rfl,hJs,hbs,hcs⟩:=hrel
   have HCS:=Lib.hid hcs
   have HJ:=Lib.hid hJs
   clear hcs hJs HC h0 hBs
   by_cases hz:j=0
   · subst hz
     gi_wp2
     go_end0
     exact ⟨⟨_,rfl⟩,.inl ⟨_,rfl,HJ.out⟩⟩
   · obtain ⟨i,rfl⟩:∃ i,j=i+1:=⟨j - 1,by omega⟩
     have hi:=HCS.out i (by omega)
     have hik:(i:Int) < (k:Int):=by omega
     have hbl:=bl_succ k (k - (i+1))
     rw [show k - (i+1)+1=k - i by omega,show k - 1 - (k - (i+1))=i by omega] at hbl
     obtain ⟨x,hx⟩:∃ x,xs[i]?.getD 0=x:=⟨_,rfl⟩
     obtain ⟨fn,tmps,assign,body,hy,hR⟩:=HY.out (bl k (k - (i+1))) i wr HJ.out (by rw [bl_length];omega)
     rw [hx] at hi hy
     have HBL:=Lib.hid hbl
     have HR:=Lib.hid hR
     clear hbl hx hR
     gi_wp2
     refine HR.out.mono ?_
     rintro e W3 (⟨rfl,hJ3,hk3⟩ | ⟨rfl,hJx3⟩)
     · have HK:=Lib.hid hk3
       have HJ3:=Lib.hid hJ3
       clear hk3 hJ3
       gi_wp2
       go_roundw
       case rel=>exact ⟨i,by omega,by go_num,by rw [HBL.out];exact HJ3.out,(World.cell?_of_block (a:=⟨Bs,0,none⟩) HK.out.2).trans hbs,fun t ht=>(HK.out.1.cell (p:=⟨b,o+t,none⟩) hb).trans (HCS.out t ht)⟩
       case measure=>simp [intOf]
     · gi_wp2
       refine bodyPost_ret (results_none rfl _ _ _) rfl ?_
       exact ⟨⟨_,rfl⟩,.inr ⟨_,trivial,hJx3⟩⟩
theorem backwardk_stops (n Bs b o k c n₀:Nat) (xs:List Int) (w:World) (hn:1≤n) (hk:k≤1000000) (hb:b < n₀) (hnw:n₀≤w.heap.size) (hBs:Bs < w.heap.size) (hc:w.cell? ⟨Bs,0,none⟩=some (.slice (some ⟨b,o,none⟩) k c))
   (hcell:∀ i,i < k→w.cell? ⟨b,o+i,none⟩=some (.int .i64 (xs[i]?.getD 0))) :
   SeqStopsK Fence.wide n Tryz.prog 165 #[.pointer (some ⟨Bs,0,none⟩)] (fun x:Nat=>#[Value.int .i64 (x:Int),Value.int .i64 (xs[x]?.getD 0)]) (KpB n₀ Bs) (fun ys=>ys=bl k k) (fun _=>True) k w:=fun l J Jx W hW _ _ hY h0 =>
 backwardk_in l Bs b o k c n₀ xs n hn J Jx hk hb hY W ((hW.cell (p:=⟨Bs,0,none⟩) hBs).trans hc) (fun i hi=>(hW.cell (p:=⟨b,o+i,none⟩) (by show b < _;omega)).trans (hcell i hi)) h0
end Go.Proofs.YtpiiclmkbplkhaaGreatDoor.Kl
namespace Go.Proofs.YtpiiclmkbplkhaaGreatDoor.Kl
open Go Go.RowKit
set_option maxRecDepth 100000
set_option maxHeartbeats 8000000
structure Grows (B:Nat) (w w':World):Prop where
 below:Below B w w'
 keep:∀ (k:Nat) (o:Obj),w.heap[k]? = some o→(∀ cs fz,o≠Obj.cells cs 5 fz)→w'.heap[k]? = some o
theorem info_u8 : (Tryz.prog.info? 5).map (fun i=>(i.zero,i.size,i.bytes))=some (some (.int .u8 0),1,1):=by kernel_rfl
theorem bc_set (l:List UInt8) (i:Nat) (z:Int) (c:UInt8) (hz:z=(c.toNat:Int)):(Lib.byteCells l).set i (.int .u8 z)=Lib.byteCells (l.set i c):=by
 subst hz;unfold Lib.byteCells;rw [List.map_set]
theorem dig_nat (P:Nat):((UInt8.ofNat (48+P % 10)).toNat:Int)=48+(P:Int) % 10:=by
 have:(UInt8.ofNat (48+P % 10)).toNat=48+P % 10:=by rw [UInt8.toNat_ofNat'];omega
 rw [this];omega
theorem appendPiece_any (B:Nat) (v:Value) (n:Nat) (xs:List Value) (p:Nat) (w:World) (hp:p < 1000000000) (hn:n≤1000000) (hown:w.ownsRow B 5 1 v n xs) (hB:B≤w.heap.size) :
   Calls Tryz.prog 138 #[v,.int .i64 p] w fun e w' => ∃ v',e = .returned v'∧w'.ownsRow B 5 1 v' (n+9) (xs ++ Lib.byteCells (low 9 p))∧Grows B w w':=by
 obtain ⟨i0,hi,hz0,hz1,hz2⟩:=info_parts info_u8
 have HXL:Hid (xs.length=n):=Lib.hid (by have:=hown.1;omega)
 go_enter Tryz.func138,Tryz.ntmps138
 go_wp2_with (at_builtin;refine Lib.wpList_append_own_string _ rfl _ _ 157 9 rfl B 5 i0 Tryz.underlying157 (by kernel_rfl) hi hz0 hz1 hz2 v n xs rfl hown ⟨#[48,48,48,48,48,48,48,48,48]⟩ rfl ?c1 ?c2 hB ?_)
 case c1=>show n+9≤maxLen;unfold maxLen;omega
 case c2=>show n+9≤_;omega
 intro v' w1 hown1 hgrow _
 change w1.ownsRow B 5 1 v' (n+9) _ at hown1
 obtain ⟨g,cap,rfl⟩:=Joins.ownsRow_form hown1 (by omega)
 have hbv:=own_ge3 hown
 have hG:Grows B w w1:=⟨(Below.refl B w).grown hgrow hB hbv,fun k o hk hne=>by
   have hlt:k < w.heap.size:=by
     by_cases hn:k < w.heap.size
     · exact hn
     · rw [Array.getElem?_eq_none (by omega)] at hk;cases hk
   refine (hgrow.block k hlt (fun e=>?_)).trans hk
   rcases hown.2 with ⟨h1,_⟩ | ⟨g0,cap0,cur0,hv,_,hh,_⟩
   · subst h1;cases e
   · subst hv
     obtain rfl:k=g0:=by simpa [Value.ownBlock] using e
     rw [hh] at hk
     exact hne cur0 (0,0) (Option.some.inj hk).symm⟩
 have HO:Hid (w1.ownsRow B 5 1 (.slice (some ⟨g,0,none⟩) (n+9) cap) (n+9) (xs ++ Lib.byteCells (padAt 0 p))):=hown1
 have HG:=Lib.hid hG
 have HBG:Hid (B≤g):=Lib.hid (own_ge3 hown1 g rfl)
 clear hown1 hgrow hG hbv hown
 go_wp2
 go_loopw [5,1] (fun iv pv wr=>∃ j:Nat,j≤9∧iv = .int .i64 ((n:Int)+8 - j)∧pv = .int .i64 ((p / 10 ^ j:Nat):Int)∧wr.ownsRow B 5 1 (.slice (some ⟨g,0,none⟩) (n+9) cap) (n+9) (xs ++ Lib.byteCells (padAt j p))∧Grows B w wr) (fun _ pv _=>(intOf pv).toNat)
 case atStart=>exact ⟨0,by omega,by go_num,by simp,HO.out,HG.out⟩
 case round =>
   obtain ⟨j,hj,rfl,rfl,hown,hG⟩:=hrel
   have HO2:=Lib.hid hown
   have HG2:=Lib.hid hG
   clear hown hG HO HG
   have hPb:p / 10 ^ j < 1000000000:=Nat.lt_of_le_of_lt (Nat.div_le_self _ _) hp
   have hstep:=padAt_step j p
   have hend:=padAt_end j p hj
   have hdiv:p / 10 ^ j / 10=p / 10 ^ (j+1):=by rw [Nat.pow_succ,Nat.div_div_eq_div_mul]
   have hj9:j=9→p / 10 ^ j=0:=fun e=>by rw [e];exact Nat.div_eq_of_lt hp
   obtain ⟨P,hP⟩:∃ P,p / 10 ^ j=P:=⟨_,rfl⟩
   rw [hP] at hPb hstep hend hdiv hj9 ⊢
   by_cases h0:P=0
   · subst h0
     have HE:=Lib.hid (hend rfl)
     clear hstep hend hdiv hj9 hP
     go_wp2
     go_ret
     exact ⟨_,rfl,by rw [← HE.out];exact HO2.out,HG2.out⟩
   · have hj8:j < 9:=by
       rcases Nat.lt_or_ge j 9 with h | h
       · exact h
       · exact absurd (hj9 (by omega)) h0
     obtain ⟨ip,hip⟩:∃ ip:Nat,(n:Int)+8 - j=ip:=⟨n+8 - j,by omega⟩
     have hpos:(0:Int) < (P:Int):=by omega
     have hlt:(ip:Int) < ((n+9:Nat):Int):=by omega
     have hcf:wr.frozen? ⟨g,ip,none⟩=false:=HO2.out.frozenAt ip
     obtain ⟨u0,hcc⟩:∃ u0,wr.cell? ⟨g,ip,none⟩=some u0:=by
       rw [HO2.out.cellAt ip (by omega)]
       exact ⟨_,List.getElem?_eq_getElem (by have:=HO2.out.1;omega)⟩
     have hst:=(HO2.out.stored ip (.int .u8 (48+(P:Int) % 10))).1
     have hset:(xs ++ Lib.byteCells (padAt j p)).set ip (.int .u8 (48+(P:Int) % 10))=xs ++ Lib.byteCells (padAt (j+1) p):=by
       have hx:=HXL.out
       rw [List.set_append_right _ _ (by omega),show ip - xs.length=8 - j by omega,bc_set _ _ _ (UInt8.ofNat (48+P % 10)) (dig_nat P).symm,hstep hj8]
     rw [hset] at hst
     have HST:=Lib.hid hst
     have HDIV:=Lib.hid hdiv
     have HIP:=Lib.hid hip
     rw [hip]
     clear hst hset hstep hend hdiv hj9 hP hip
     go_wp2
     have hgs:Grows B w (wr.setCell ⟨g,ip,none⟩ (.int .u8 (48+(P:Int) % 10))):=⟨HG2.out.below.setCell HBG.out _,fun k o hk hne=>by
       rw [heap_set_other _ _ _ _ _ (fun e=>?_)]
       · exact HG2.out.keep k o hk hne
       · have h1:=HG2.out.keep k o hk hne
         rw [e] at h1
         obtain ⟨cur,hh,_⟩:=row_block HO2.out
         rw [hh] at h1
         exact hne cur (0,0) (Option.some.inj h1).symm⟩
     exact ⟨⟨j+1,by omega,by have:=HIP.out;congr 1;omega,by rw [← HDIV.out];congr 1,HST.out,hgs⟩,by simp [intOf];omega⟩
end Go.Proofs.YtpiiclmkbplkhaaGreatDoor.Kl
namespace Go.Proofs.YtpiiclmkbplkhaaGreatDoor.Kl
open Go Go.RowKit Go.Shelf
set_option maxRecDepth 100000
set_option maxHeartbeats 8000000
attribute [local go_sem] Oper.semAt_some
def lows (xs:List Int) (is:List Nat):List UInt8:=is.flatMap fun i=>low 9 (xs[i]?.getD 0).toNat
theorem lows_snoc (xs:List Int) (is:List Nat) (i:Nat):lows xs (is ++ [i])=lows xs is ++ low 9 (xs[i]?.getD 0).toNat:=by unfold lows;simp
theorem lows_length (xs:List Int) (is:List Nat):(lows xs is).length=9*is.length:=by
 induction is with
 | nil=>rfl
 | cons a r ih=>unfold lows at *;simp [low_length] at *;omega
theorem dec_step9 {xs:List Int} (h:IsP 1000000000 xs) {j:Nat} (hj:j+1 < xs.length) :
   Lib.decDigits (pval 1000000000 (xs.drop (j+1))).toNat ++ low 9 (xs[j]?.getD 0).toNat=Lib.decDigits (pval 1000000000 (xs.drop j)).toNat:=by
 have hjl:j < xs.length:=by omega
 have hx:=h.1 xs[j] (List.getElem_mem hjl)
 have hpos:=isP_pos (by decide:(0:Int) < 1000000000) (drop_isP (j+1) h) (by
   intro e;have:=congrArg List.length e;rw [List.length_drop] at this;simp at this;omega)
 have e1:pval 1000000000 (xs.drop j)=xs[j]+1000000000*pval 1000000000 (xs.drop (j+1)):=by rw [← List.getElem_cons_drop hjl];rfl
 have e2:xs[j]?.getD 0=xs[j]:=by rw [List.getElem?_eq_getElem hjl];rfl
 rw [e2]
 have e3:(pval 1000000000 (xs.drop j)).toNat=1000000000*(pval 1000000000 (xs.drop (j+1))).toNat+xs[j].toNat:=by rw [e1];omega
 rw [e3,dec_nine _ _ (by omega) (by omega)]
theorem dec_lows {xs:List Int} (h:IsP 1000000000 xs) (l:Nat) (hl:xs.length=l+1):∀ t,t≤l →
   Lib.decDigits (xs[l]?.getD 0).toNat ++ lows xs (bl l t)=Lib.decDigits (pval 1000000000 (xs.drop (l - t))).toNat
 | 0,_=>by
   have e:xs.drop l=[xs[l]?.getD 0]:=by
     rw [← List.getElem_cons_drop (by omega:l < xs.length),List.drop_eq_nil_of_le (by omega),List.getElem?_eq_getElem (by omega)];rfl
   rw [Nat.sub_zero,e]
   show _=Lib.decDigits (xs[l]?.getD 0+1000000000*0).toNat
   simp [bl,lows]
 | t+1,ht=>by
   rw [bl_succ,lows_snoc,← List.append_assoc,dec_lows h l hl t (by omega)]
   have:=dec_step9 h (j:=l - 1 - t) (by omega)
   rw [show l - 1 - t+1=l - t by omega] at this
   rw [this,show l - 1 - t=l - (t+1) by omega]
theorem info_b : ∃ i,Tryz.prog.info? 5=some i∧i.zero=some (.int .u8 0)∧i.size=1∧i.bytes=1:=info_parts info_u8
theorem make_bytes (c:Nat) (hc:c≤10000000) (w:World) :
   (Instr.makeSlice 157 (.int .i64 0) (.int .i64 c)).run Tryz.prog w = .ok (.slice (some ⟨w.heap.size,0,none⟩) 0 c) (w.alloc (.cells (madeCells #[Value.int .u8 0] c) 5)):=by
 obtain ⟨i,hi,hz,hs,hb⟩:=info_b
 have:=run_make w 157 5 i (.int .u8 0) (by kernel_rfl) hi hz .i64 .i64 0 (c:Int) (by omega) (by omega) (by rw [hb];omega) (by omega)
 rw [hs,Nat.mul_one] at this
 simpa [Value.cells] using this
theorem ownsRow_ownFrom {β:Type} (B B':Nat) (e:TypeId) (size:Nat) (f:β→Prop) (g:β→Value) (n:β→Nat) (x:β→List Value):OwnFrom B' (fun s W=>f s∧W.ownsRow B e size (g s) (n s) (x s)):=fun s W W' row hs hg hr =>
 ⟨hs.1,hs.2.kept hg (by
   by_cases h:(g s).ownBlock=row
   · rcases hs.2.2 with ⟨h1,_⟩ | ⟨g0,cap,cur,hv,_,hh,_⟩
     · exact .inl (by rw [h1];rfl)
     · exfalso
       have e0:(g s).ownBlock=some g0:=by rw [hv];rfl
       obtain ⟨_,o,ho,hc⟩:=hr g0 (h.symm.trans e0)
       rw [hh] at ho
       obtain rfl:=Option.some.inj ho
       cases hc
   · exact .inr h)⟩
theorem box_set {w:World} {B:Nat} {u v:Value} {t:TypeId} (hB:w.heap[B]? = some (.cells #[u] t (0,0))) :
   (w.setCell ⟨B,0,none⟩ v).heap[B]? = some (.cells #[v] t (0,0)):=by
 simp [World.setCell,Array.getElem?_modify,hB]
theorem cells_lie {W W':World} {B:Nat} {k:Nat} {cs:Array Value} {t:TypeId} {fz:Nat × Nat} {row:Option Nat} (h:W.heap[k]? = some (.cells cs t fz)) (hg:W.grownBy W' row) (hr:∀ r,row=some r→B≤r∧∃ o:Obj,W.heap[r]? = some o∧o.isCells=false):W'.heap[k]? = some (.cells cs t fz):=by
 have hlt:k < W.heap.size:=by
   by_cases hn:k < W.heap.size
   · exact hn
   · rw [Array.getElem?_eq_none (by omega)] at h;cases h
 refine (hg.block k hlt (fun e=>?_)).trans h
 obtain ⟨_,o,ho,hc⟩:=hr k e.symm
 rw [h] at ho
 obtain rfl:=Option.some.inj ho
 cases hc
structure TextI (w:World) (xs:List Int) (ds:List UInt8) (n5 Bs b o l c:Nat) (pre:List Nat) (W:World):Prop where
 row:∃ g cp,W.heap[w.heap.size+2]? = some (Obj.cells #[Value.slice (some ⟨g,0,none⟩) (n5+9*pre.length) cp] 157 (0,0))∧W.ownsRow (w.heap.size+1) 5 1 (Value.slice (some ⟨g,0,none⟩) (n5+9*pre.length) cp) (n5+9*pre.length) (Lib.byteCells (ds ++ lows xs pre))
 it:W.heap[Bs]? = some (Obj.cells #[Value.slice (some ⟨b,o,none⟩) l c] 135 (0,0))
 bel:Below w.heap.size w W
theorem textI_own (w:World) (xs:List Int) (ds:List UInt8) (n5 Bs b o l c:Nat) (B:Nat) (hB:w.heap.size≤B):OwnFrom B (TextI w xs ds n5 Bs b o l c):=fun s W W' row hs hg hr=>by
 obtain ⟨⟨g,cp,h1,h2⟩,h3,h4⟩:=hs
 refine ⟨⟨g,cp,cells_lie h1 hg hr,?_⟩,cells_lie h3 hg hr,ownFrom_below (Nat.le_refl _) hB s W W' row h4 hg hr⟩
 exact (ownsRow_ownFrom (w.heap.size+1) B 5 1 (fun _:List Nat=>True) (fun p=>Value.slice (some ⟨g,0,none⟩) (n5+9*p.length) cp) (fun p=>n5+9*p.length) (fun p=>Lib.byteCells (ds ++ lows xs p)) s W W' row ⟨trivial,h2⟩ hg hr).2
theorem textI_start {w W7:World} {xs:List Int} {ds:List UInt8} {n5 Bs b o l c g5 cp5:Nat} (_h:ds.length=n5) (y2:W7.heap[w.heap.size+2]? = some (Obj.cells #[Value.slice (some ⟨g5,0,none⟩) n5 cp5] 157 (0,0)))
   (hO7:W7.ownsRow (w.heap.size+1) 5 1 (Value.slice (some ⟨g5,0,none⟩) n5 cp5) n5 (Lib.byteCells ds)) (y7:W7.heap[Bs]? = some (Obj.cells #[Value.slice (some ⟨b,o,none⟩) l c] 135 (0,0))) (hb7:Below w.heap.size w W7) :
   TextI w xs ds n5 Bs b o l c [] W7:=⟨⟨g5,cp5,y2,by simpa [lows] using hO7⟩,y7,hb7⟩
attribute [local go_sem] Oper.semAt_some
theorem text_plus (b o c l:Nat) (X:Nat) (w:World) (E:Env w) (hlen:(pcM X).length=l+1) (hl:l≤100000) (hlc:l+1≤c) (hb:b < w.heap.size) (hcell:∀ i,i < l+1→w.cell? ⟨b,o+i,none⟩=some (.int .i64 ((pcM X)[i]?.getD 0))) :
   Calls Tryz.prog 109 #[.agg #[.bool false,.slice (some ⟨b,o,none⟩) (l+1) c]] w (Ret w (.string (strOf ([] ++ Lib.decDigits X)))):=by
 obtain ⟨xs,hxs⟩:∃ xs,pcM X=xs:=⟨_,rfl⟩
 have hIP:IsP 1000000000 xs:=by rw [← hxs];exact (pcM_isP X).1
 have hVal:(pval 1000000000 xs).toNat=X:=by rw [← hxs,(pcM_isP X).2];rfl
 have hin:∀ i:Nat,0≤xs[i]?.getD 0∧xs[i]?.getD 0 < 1000000000:=by rw [← hxs];exact pcM_in X
 rw [hxs] at hlen hcell
 have hDL:=dec_lows hIP l hlen l (Nat.le_refl _)
 rw [Nat.sub_self,List.drop_zero,hVal] at hDL
 obtain ⟨top,htop⟩:∃ top,xs[l]?.getD 0=top:=⟨_,rfl⟩
 have htin:=hin l
 have hct:=hcell l (by omega)
 rw [htop] at hDL htin hct
 have hit:Lib.itoa top=Lib.decDigits top.toNat:=itoa_nat top htin.1
 have hmk:∀ w,(Instr.makeSlice 157 (.int .i64 0) (.int .i64 (1+9*((l:Int)+1)))).run Tryz.prog w = .ok (.slice (some ⟨w.heap.size,0,none⟩) 0 (1+9*(l+1))) (w.alloc (.cells (madeCells #[Value.int .u8 0] (1+9*(l+1))) 5)):=fun w=>by
   rw [show (1+9*((l:Int)+1))=((1+9*(l+1):Nat):Int) by omega]
   exact make_bytes _ (by omega) w
 have HIN:=Lib.hid hin
 have HCELL:=Lib.hid hcell
 have HDL:=Lib.hid hDL
 have HIT:=Lib.hid hit
 clear hxs hIP hVal hin hcell hDL hit htop hlen
 refine (callsIn_wide (n:=5)).1 ?_
 refine callsIn_of_wp_marks Tryz.func109 rfl trivial ?_ rfl
 simp only [Tryz.ntmps109,List.size_toArray,List.length_cons,List.length_nil,Nat.reduceAdd,Nat.reduceSub,Array.replicate_succ,Array.replicate_zero,List.push_toArray,List.append_toArray,List.nil_append,List.cons_append]
 refine wpIn_wide.2 ?_
 go_wp2
 obtain ⟨W3,hW3⟩:∃ W3,((w.alloc (Obj.cells #[Value.bool false,Value.slice (some ⟨b,o,none⟩) (l+1) c] 137)).alloc (Obj.cells (madeCells #[Value.int .u8 0] (1+9*(l+1))) 5)).alloc (Obj.cells #[Value.slice (some ⟨w.heap.size+1,0,none⟩) 0 (1+9*(l+1))] 157)=W3:=⟨_,rfl⟩
 have hs3:w.heap.size+3≤W3.heap.size:=by rw [← hW3];simp only [World.size_alloc];omega
 have hh:=heap3 w (Obj.cells #[Value.bool false,Value.slice (some ⟨b,o,none⟩) (l+1) c] 137) (Obj.cells (madeCells #[Value.int .u8 0] (1+9*(l+1))) 5) (Obj.cells #[Value.slice (some ⟨w.heap.size+1,0,none⟩) 0 (1+9*(l+1))] 157)
 rw [hW3] at hh ⊢
 have hb3:Below w.heap.size w W3:=by rw [← hW3];exact (((Below.refl _ _).alloc (Nat.le_refl _) _).alloc (by simp) _).alloc (by simp;omega) _
 clear hW3
 have hown:W3.ownsRow (w.heap.size+1) 5 1 (Value.slice (some ⟨w.heap.size+1,0,none⟩) 0 (1+9*(l+1))) 0 (Lib.byteCells []):=
   ⟨rfl,.inr ⟨w.heap.size+1,1+9*(l+1),_,rfl,Nat.le_refl _,hh.2.1,by omega,by unfold maxLen;omega,by rw [size_madeCells];omega,by simp [Lib.byteCells]⟩⟩
 obtain ⟨k0,_,k2⟩:=hh
 have c3:W3.cell? ⟨w.heap.size+1+1,0,none⟩=some (Value.slice (some ⟨w.heap.size+1,0,none⟩) 0 (1+9*(l+1))):=zA k2
 have c1:W3.cell? ⟨w.heap.size,1,none⟩=some (Value.slice (some ⟨b,o,none⟩) (l+1) c):=zA k0
 have cb:W3.cell? ⟨b,o+l,none⟩=some (Value.int .i64 top):=(hb3.cell (p:=⟨b,o+l,none⟩) hb).trans hct
 have K0:=Lib.hid k0
 have K2:=Lib.hid k2
 have HS3:=Lib.hid hs3
 clear k0 k2 hs3
 have T3 : Lib.TabBelow Tryz.prog (w.heap.size + 1) W3 "internal/strconv.uint64pow10" .u64 Lib.pow10Tab := fun w' h' => (E.below (hb3.trans (h'.mono (by omega)))).tab
 have hlc1:(l:Int)≤(c:Int):=by omega
 have hli:(l:Int) < (l:Int)+1:=by omega
 have hl0:¬ (l:Int) < 0:=by omega
 have hl1:(0:Int)≤(l:Int):=by omega
 go_still_tail 6,(by kernel_rfl)
 obtain ⟨W4,hW4⟩:∃ W4,W3.drew=W4:=⟨_,rfl⟩
 have hown4:W4.ownsRow (w.heap.size+1) 5 1 (Value.slice (some ⟨w.heap.size+1,0,none⟩) 0 (1+9*(l+1))) 0 (Lib.byteCells ([])):=by rw [← hW4];exact hown.drew
 have hb4:Below w.heap.size w W4:=by rw [← hW4];exact hb3.drew
 have T4 : Lib.TabBelow Tryz.prog (w.heap.size + 1) W4 "internal/strconv.uint64pow10" .u64 Lib.pow10Tab := by rw [← hW4]; exact T3.on (Below.refl _ _).drew
 have HS4:Hid (w.heap.size+3≤W4.heap.size):=by rw [← hW4];exact HS3
 have G0:Hid (W4.heap[w.heap.size]? = some (Obj.cells #[Value.bool false,Value.slice (some ⟨b,o,none⟩) (l+1) c] 137 (0,0))):=by rw [← hW4];exact K0
 have G2:Hid (W4.heap[w.heap.size+2]? = some (Obj.cells #[Value.slice (some ⟨w.heap.size+1,0,none⟩) 0 (1+9*(l+1))] 157 (0,0))):=by rw [← hW4];exact K2
 have c3:W4.cell? ⟨w.heap.size+1+1,0,none⟩=some (Value.slice (some ⟨w.heap.size+1,0,none⟩) 0 (1+9*(l+1))):=zA G2.out
 have c1:W4.cell? ⟨w.heap.size,1,none⟩=some (Value.slice (some ⟨b,o,none⟩) (l+1) c):=zA G0.out
 have cb:W4.cell? ⟨b,o+l,none⟩=some (Value.int .i64 top):=(hb4.cell (p:=⟨b,o+l,none⟩) hb).trans hct
 change wpList _ _ _ _ _ W3.drew
 rw [hW4]
 clear hW4 hb3 hown T3 K0 K2 HS3
 have HT:=Lib.hid htin
 have tlo : -9223372036854775808≤top:=by omega
 have thi:top≤9223372036854775807:=by omega
 have CI:=Lib.hid (Tryz.strconv_AppendInt_10 (w.heap.size+1) 0 top tlo thi (Value.slice (some ⟨w.heap.size+1,0,none⟩) 0 (1+9*(l+1))) (Lib.byteCells ([])) W4 hown4 (by have:=HS4.out;omega) (by omega) T4)
 clear hown4 T4 htin tlo thi
 go_wp2_with (go_at_call 125;refine CI.out.mono ?_;rintro e w5 ⟨v5,rfl,hown5,hb5,hk5⟩;refine Hid.out ?_)
 refine Lib.hid ?_
 rw [HIT.out] at hown5
 have hlen5:0 < 0+(Lib.decDigits top.toNat).length:=by have:=List.length_pos_iff.2 (decDigits_ne top.toNat);omega
 obtain ⟨n5,hn5⟩:∃ n5,0+(Lib.decDigits top.toNat).length=n5:=⟨_,rfl⟩
 obtain ⟨ds,hds⟩:∃ ds,[] ++ Lib.decDigits top.toNat=ds:=⟨_,rfl⟩
 have hx5:Lib.byteCells ([]) ++ Lib.byteCells (Lib.decDigits top.toNat)=Lib.byteCells ds:=by rw [← hds];unfold Lib.byteCells;rw [List.map_append]
 rw [hn5] at hown5 hlen5
 rw [hx5] at hown5
 have hdsl:ds.length=n5:=by rw [← hds,← hn5,List.length_append];rfl
 have e2:w5.heap[w.heap.size+2]? = some (Obj.cells #[Value.slice (some ⟨w.heap.size+1,0,none⟩) 0 (1+9*(l+1))] 157 (0,0)):=hk5 _ _ G2.out (by simp) (fun c fz h=>by injection h with _ h2 _;cases h2)
 have e0:w5.heap[w.heap.size]? = some (Obj.cells #[Value.bool false,Value.slice (some ⟨b,o,none⟩) (l+1) c] 137 (0,0)):=(hb5.block _ (by omega)).trans G0.out
 have H2:=Lib.hid e2
 have x3:w5.cell? ⟨w.heap.size+1+1,0,none⟩=some (Value.slice (some ⟨w.heap.size+1,0,none⟩) 0 (1+9*(l+1))):=zA e2
 have x4:w5.frozen? ⟨w.heap.size+1+1,0,none⟩=false:=zD e2
 have x1:w5.cell? ⟨w.heap.size,1,none⟩=some (Value.slice (some ⟨b,o,none⟩) (l+1) c):=zA e0
 have hb6:Below w.heap.size w w5:=hb4.trans (hb5.mono (by omega))
 obtain ⟨g5,cp5,rfl⟩:=Joins.ownsRow_form hown5 hlen5
 have HO:=Lib.hid hown5
 have hs5:w.heap.size+3≤w5.heap.size:=by have h2:=HS4.out;have h3:=hb5.size;omega
 have HB6:=Lib.hid hb6
 have HS5:=Lib.hid hs5
 have HDS:=Lib.hid hds
 have HN5:=Lib.hid hdsl
 clear e2 e0 hb4 hown5 hk5 hb5 hx5 hs5 hb6 hlen5 hds hn5 hdsl c3 c1 cb CI G0 G2 HS4
 go_wp2_with (go_at_call 137;refine (callsIn_wide.1 (backward_in 3 _ _ _ _)).mono ?_;rintro e w6 ⟨rfl,rfl⟩)
 obtain ⟨W7,hW7⟩:∃ W7,(w5.setCell ⟨w.heap.size+1+1,0,none⟩ (Value.slice (some ⟨g5,0,none⟩) n5 cp5)).alloc (Obj.cells #[Value.slice (some ⟨b,o,none⟩) l c] 135)=W7:=⟨_,rfl⟩
 have hg5:g5≠w.heap.size+1+1:=by
   obtain ⟨cur,hh,_⟩:=row_block HO.out
   intro e
   rw [show g5=w.heap.size+2 from e,H2.out] at hh
   injection hh with hh
   injection hh with _ h2 _
   cases h2
 have hO7:W7.ownsRow (w.heap.size+1) 5 1 (Value.slice (some ⟨g5,0,none⟩) n5 cp5) n5 (Lib.byteCells ds):=by
   rw [← hW7];exact (ownsRow_setCell_other HO.out (by intro e;exact hg5 (Option.some.inj e)) _).alloc _
 have hs7:W7.heap.size=w5.heap.size+1:=by rw [← hW7];simp [World.size_setCell]
 have hb7:Below w.heap.size w W7:=by rw [← hW7];exact (HB6.out.setCell (p:=⟨w.heap.size+1+1,0,none⟩) (by show w.heap.size≤w.heap.size+1+1;omega) _).alloc (by have:=HS5.out;simp [World.size_setCell];omega) _
 have y2:W7.heap[w.heap.size+2]? = some (Obj.cells #[Value.slice (some ⟨g5,0,none⟩) n5 cp5] 157 (0,0)):=by
   rw [← hW7,Below.heap_alloc _ _ _ (by have:=HS5.out;simp [World.size_setCell];omega)]
   exact box_set H2.out
 have y7:W7.heap[w5.heap.size]? = some (Obj.cells #[Value.slice (some ⟨b,o,none⟩) l c] 135 (0,0)):=by
   rw [← hW7]
   have:=World.alloc_heap_new (w5.setCell ⟨w.heap.size+1+1,0,none⟩ (Value.slice (some ⟨g5,0,none⟩) n5 cp5)) (Obj.cells #[Value.slice (some ⟨b,o,none⟩) l c] 135)
   rwa [World.size_setCell] at this
 rw [hW7]
 have hs5:=HS5.out
 refine (wpIn_wide (n:=5)).1 ?_
 refine wpIn_rangeFunc_ownF rfl (by omega) (gf:=165) (lb:=#[.pointer (some ⟨w5.heap.size,0,none⟩)]) rfl trivial (enters_of Tryz.func165 (by kernel_rfl) rfl)
   (backwardk_stops 4 w5.heap.size b o l c w.heap.size xs W7 (by omega) (by omega) hb (by omega) (by omega) (zA y7) (fun i hi=>(hb7.cell (p:=⟨b,o+i,none⟩) hb).trans (HCELL.out i (by omega)))) kpB_t (fun W l' o' o'' => kpB_b (by omega) (by omega) W l' o' o'') (Below.refl _ _) (fun _=>rfl)
   (TextI w xs ds n5 w5.heap.size b o l c) (fun _ _ _=>False)
   (textI_own w xs ds n5 w5.heap.size b o l c _ (by omega))
   (fun _ _ _ _ _ hs _ _=>hs)
   (textI_start HN5.out y2 hO7 y7 hb7)
   ?a1 ?assign ?body ?done ?stop
 case assign =>
   intro l' x W K hK
   gi_wp2
   exact hK
 case body =>
   intro l' pre x W hI hlen
   obtain ⟨⟨g,cp,hbx,hown⟩,hit7,hbel⟩:=hI
   have q3:W.cell? ⟨w.heap.size+1+1,0,none⟩=some (Value.slice (some ⟨g,0,none⟩) (n5+9*pre.length) cp):=zA hbx
   obtain ⟨px,hpx⟩:∃ px:Nat,xs[x]?.getD 0=px:=⟨(xs[x]?.getD 0).toNat,by have:=HIN.out x;omega⟩
   have hpl:=HIN.out x
   have hsz7:=hbel.size
   have hszW:w.heap.size+3≤W.heap.size:=by
     have h1:w5.heap.size < W.heap.size:=by
       by_cases hn:w5.heap.size < W.heap.size
       · exact hn
       · rw [Array.getElem?_eq_none (by omega)] at hit7;cases hit7
     omega
   have hdn:=HN5.out
   have hd9:(Lib.decDigits top.toNat).length≤9:=dec_len_le _ 9 (by have:=HT.out;show _ < 1000000000;omega) (by decide)
   have hds10:ds.length≤10:=by rw [← HDS.out];simp;omega
   rw [hpx] at hpl
   have AP:=Lib.hid (appendPiece_any (w.heap.size+1) _ _ _ px W (by omega) (by omega) hown (by omega))
   have HBX:=Lib.hid hbx
   have HIT7:=Lib.hid hit7
   have HBEL:=Lib.hid hbel
   have HPX:=Lib.hid hpx
   rw [hpx]
   clear hbx hit7 hbel hpx hown hpl hsz7 hdn hd9 hds10
   gi_wp2_with (refine ⟨trivial,?_⟩;gi_at_call 138;refine (CallsIn.inRound l' (callsIn_wide.2 AP.out)).mono ?_;rintro e W8 ⟨v8,rfl,hown8,hgr⟩;refine Hid.out ?_)
   refine Lib.hid ?_
   obtain ⟨g8,cp8,rfl⟩:=Joins.ownsRow_form hown8 (by omega)
   have b8:W8.heap[w.heap.size+2]? = some (Obj.cells #[Value.slice (some ⟨g,0,none⟩) (n5+9*pre.length) cp] 157 (0,0)):=hgr.keep _ _ HBX.out (fun cs fz h=>by injection h with _ h2 _;cases h2)
   have i8:W8.heap[w5.heap.size]? = some (Obj.cells #[Value.slice (some ⟨b,o,none⟩) l c] 135 (0,0)):=hgr.keep _ _ HIT7.out (fun cs fz h=>by injection h with _ h2 _;cases h2)
   have r3:W8.cell? ⟨w.heap.size+1+1,0,none⟩=some (Value.slice (some ⟨g,0,none⟩) (n5+9*pre.length) cp):=zA b8
   have r4:W8.frozen? ⟨w.heap.size+1+1,0,none⟩=false:=zD b8
   have hg8:g8≠w.heap.size+1+1:=by
     obtain ⟨cur,hh,_⟩:=row_block hown8
     intro e
     rw [show g8=w.heap.size+2 from e,b8] at hh
     injection hh with hh
     injection hh with _ h2 _
     cases h2
   have HG:=Lib.hid hgr
   have HO8:=Lib.hid hown8
   have B8:=Lib.hid b8
   have I8:=Lib.hid i8
   clear hgr hown8 b8 i8
   gi_wp2
   refine ⟨⟨?_,?_⟩,⟨?_,?_⟩,?_⟩
   · rw [World.size_setCell];exact HG.out.below.size
   · intro k ob hk hc
     have h1:=HG.out.keep k ob hk (fun cs fz e=>by rw [e] at hc;cases hc)
     rw [heap_set_other _ _ _ _ _ (fun e=>?_)]
     · exact h1
     · rw [show k=w.heap.size+2 from e,B8.out] at h1
       obtain rfl:=Option.some.inj h1
       cases hc
   · exact (HG.out.below.mono (by omega)).setCell (p:=⟨w.heap.size+1+1,0,none⟩) (by show w.heap.size≤w.heap.size+1+1;omega) _
   · rw [heap_set_other _ _ _ _ _ (by omega),I8.out,HIT7.out]
   · have e9:n5+9*(pre ++ [x]).length=n5+9*pre.length+9:=by simp;omega
     have e10:Lib.byteCells (ds ++ lows xs (pre ++ [x]))=Lib.byteCells (ds ++ lows xs pre) ++ Lib.byteCells (low 9 px):=by
       rw [lows_snoc,HPX.out];unfold Lib.byteCells;simp
     refine ⟨⟨g8,cp8,?_,?_⟩,?_,?_⟩
     · rw [e9];exact box_set B8.out
     · rw [e9,e10];exact ownsRow_setCell_other HO8.out (by intro e;exact hg8 (Option.some.inj e)) _
     · rw [heap_set_other _ _ _ _ _ (by omega)];exact I8.out
     · exact (HBEL.out.trans (HG.out.below.mono (by omega))).setCell (p:=⟨w.heap.size+1+1,0,none⟩) (by show w.heap.size≤w.heap.size+1+1;omega) _
 case done =>
   rintro D ys W hD rfl ⟨⟨g,cp,hbx,hown⟩,_,hB⟩ hK
   have hq:n5+9*(bl l l).length=(ds ++ lows xs (bl l l)).length:=by rw [List.length_append,lows_length,HN5.out]
   rw [hq] at hbx hown
   have hres:ds ++ lows xs (bl l l)=[] ++ Lib.decDigits X:=by rw [← HDS.out,List.append_assoc,HDL.out]
   have HRES:=Lib.hid hres
   obtain ⟨all,hall⟩:∃ all,ds ++ lows xs (bl l l)=all:=⟨_,rfl⟩
   rw [hall] at hbx hown HRES
   have q3:W.cell? ⟨w.heap.size+1+1,0,none⟩=some (Value.slice (some ⟨g,0,none⟩) all.length cp):=zA hbx
   have hcs:∀ j (hj:j < all.length),W.cell? ⟨g,j,none⟩=some (.int .u8 (all[j].toNat:Int)):=fun j hj=>by
     obtain ⟨cur,hh,ht⟩:=row_block hown
     have:=Lib.bytes_of_row hh (l:=all) ht j hj
     rwa [addr_add] at this
   have hconv:=run_convert_bytes_back (P:=Tryz.prog) W 157 90 5 ⟨g,0,none⟩ cp all Tryz.underlying157 Tryz.underlying5 Tryz.underlying90 (fun j hj=>by rw [addr_add];exact hcs j hj)
   have HB:=Lib.hid hB
   clear hbx hown hq hres hcs hB hall
   go_wp2
   refine ⟨by simp,.inl ⟨_,_,rfl,run_takeDeferred hK,?_⟩⟩
   exact ⟨_,results_tmp rfl _ _ _,by rw [HRES.out];rfl,HB.out.trans (belowK_b (w:=w) (Nat.le_refl _) W D _ _ (by omega) hK rfl rfl)⟩
 case stop =>
   rintro D c pre W _ _ h _
   exact h.elim
attribute [local go_sem] Oper.semAt_some
theorem text_minus (b o c l:Nat) (X:Nat) (w:World) (E:Env w) (hlen:(pcM X).length=l+1) (hl:l≤100000) (hlc:l+1≤c) (hb:b < w.heap.size) (hcell:∀ i,i < l+1→w.cell? ⟨b,o+i,none⟩=some (.int .i64 ((pcM X)[i]?.getD 0))) :
   Calls Tryz.prog 109 #[.agg #[.bool true,.slice (some ⟨b,o,none⟩) (l+1) c]] w (Ret w (.string (strOf ([45] ++ Lib.decDigits X)))):=by
 obtain ⟨xs,hxs⟩:∃ xs,pcM X=xs:=⟨_,rfl⟩
 have hIP:IsP 1000000000 xs:=by rw [← hxs];exact (pcM_isP X).1
 have hVal:(pval 1000000000 xs).toNat=X:=by rw [← hxs,(pcM_isP X).2];rfl
 have hin:∀ i:Nat,0≤xs[i]?.getD 0∧xs[i]?.getD 0 < 1000000000:=by rw [← hxs];exact pcM_in X
 rw [hxs] at hlen hcell
 have hDL:=dec_lows hIP l hlen l (Nat.le_refl _)
 rw [Nat.sub_self,List.drop_zero,hVal] at hDL
 obtain ⟨top,htop⟩:∃ top,xs[l]?.getD 0=top:=⟨_,rfl⟩
 have htin:=hin l
 have hct:=hcell l (by omega)
 rw [htop] at hDL htin hct
 have hit:Lib.itoa top=Lib.decDigits top.toNat:=itoa_nat top htin.1
 have hmk:∀ w,(Instr.makeSlice 157 (.int .i64 0) (.int .i64 (1+9*((l:Int)+1)))).run Tryz.prog w = .ok (.slice (some ⟨w.heap.size,0,none⟩) 0 (1+9*(l+1))) (w.alloc (.cells (madeCells #[Value.int .u8 0] (1+9*(l+1))) 5)):=fun w=>by
   rw [show (1+9*((l:Int)+1))=((1+9*(l+1):Nat):Int) by omega]
   exact make_bytes _ (by omega) w
 have HIN:=Lib.hid hin
 have HCELL:=Lib.hid hcell
 have HDL:=Lib.hid hDL
 have HIT:=Lib.hid hit
 clear hxs hIP hVal hin hcell hDL hit htop hlen
 refine (callsIn_wide (n:=5)).1 ?_
 refine callsIn_of_wp_marks Tryz.func109 rfl trivial ?_ rfl
 simp only [Tryz.ntmps109,List.size_toArray,List.length_cons,List.length_nil,Nat.reduceAdd,Nat.reduceSub,Array.replicate_succ,Array.replicate_zero,List.push_toArray,List.append_toArray,List.nil_append,List.cons_append]
 refine wpIn_wide.2 ?_
 obtain ⟨i0,hi,hz0,hz1,hz2⟩:=info_parts info_u8
 have hs2:(((w.alloc (Obj.cells #[Value.bool true,Value.slice (some ⟨b,o,none⟩) (l+1) c] 137)).alloc (Obj.cells (madeCells #[Value.int .u8 0] (1+9*(l+1))) 5)).alloc (Obj.cells #[Value.slice (some ⟨w.heap.size+1,0,none⟩) 0 (1+9*(l+1))] 157)).heap.size=w.heap.size+3:=by simp only [World.size_alloc]
 have hh2:=heap3 w (Obj.cells #[Value.bool true,Value.slice (some ⟨b,o,none⟩) (l+1) c] 137) (Obj.cells (madeCells #[Value.int .u8 0] (1+9*(l+1))) 5) (Obj.cells #[Value.slice (some ⟨w.heap.size+1,0,none⟩) 0 (1+9*(l+1))] 157)
 have hb2:Below w.heap.size w (((w.alloc (Obj.cells #[Value.bool true,Value.slice (some ⟨b,o,none⟩) (l+1) c] 137)).alloc (Obj.cells (madeCells #[Value.int .u8 0] (1+9*(l+1))) 5)).alloc (Obj.cells #[Value.slice (some ⟨w.heap.size+1,0,none⟩) 0 (1+9*(l+1))] 157)):=(((Below.refl _ _).alloc (Nat.le_refl _) _).alloc (by simp) _).alloc (by simp;omega) _
 have hown2:(((w.alloc (Obj.cells #[Value.bool true,Value.slice (some ⟨b,o,none⟩) (l+1) c] 137)).alloc (Obj.cells (madeCells #[Value.int .u8 0] (1+9*(l+1))) 5)).alloc (Obj.cells #[Value.slice (some ⟨w.heap.size+1,0,none⟩) 0 (1+9*(l+1))] 157)).ownsRow (w.heap.size+1) 5 1 (Value.slice (some ⟨w.heap.size+1,0,none⟩) 0 (1+9*(l+1))) 0 []:=
   ⟨rfl,.inr ⟨w.heap.size+1,1+9*(l+1),_,rfl,Nat.le_refl _,hh2.2.1,by omega,by unfold maxLen;omega,by rw [size_madeCells];omega,by simp⟩⟩
 have HH2:=Lib.hid hh2
 have HB2:=Lib.hid hb2
 have HS2:=Lib.hid hs2
 have HOWN2:=Lib.hid hown2
 clear hh2 hb2 hs2 hown2
 go_wp2_with (at_builtin;refine wpList_append_own _ rfl _ _ 157 rfl (w.heap.size+1) 5 i0 (.int .u8 0) 1 1 Tryz.underlying157 hi hz0 hz1 hz2 rfl (by decide) _ _ _ rfl (HOWN2.out.alloc _) ⟨w.heap.size+3,0,none⟩ 1 1 [.int .u8 45] rfl rfl ?c1 ?c2 ?c3 ?c4 ?c5 ?_)
 case c1 =>
   have h9:=cell_one_new (((w.alloc (Obj.cells #[Value.bool true,Value.slice (some ⟨b,o,none⟩) (l+1) c] 137)).alloc (Obj.cells (madeCells #[Value.int .u8 0] (1+9*(l+1))) 5)).alloc (Obj.cells #[Value.slice (some ⟨w.heap.size+1,0,none⟩) 0 (1+9*(l+1))] 157)) (Value.int .u8 45) 5
   rw [HS2.out] at h9
   exact h9
 case c2=>simp [Value.oneCell']
 case c3=>unfold maxLen;omega
 case c4=>omega
 case c5=>simp only [World.size_alloc];omega
 intro v1 w1 hown1 hgrow _
 change w1.ownsRow (w.heap.size+1) 5 1 v1 1 (Lib.byteCells [45]) at hown1
 obtain ⟨g0,cp0,rfl⟩:=Joins.ownsRow_form hown1 (by omega)
 have hs1:w.heap.size+4≤w1.heap.size:=by have h1:=hgrow.size;rw [World.size_alloc,HS2.out] at h1;exact h1
 have j0:w1.heap[w.heap.size]? = some (Obj.cells #[Value.bool true,Value.slice (some ⟨b,o,none⟩) (l+1) c] 137 (0,0)):=by
   rw [hgrow.block _ (by rw [World.size_alloc,HS2.out];omega) (by intro e;have:=Option.some.inj e;change w.heap.size=w.heap.size+1 at this;omega),Below.heap_alloc _ _ _ (by rw [HS2.out];omega)]
   exact HH2.out.1
 have j2:w1.heap[w.heap.size+2]? = some (Obj.cells #[Value.slice (some ⟨w.heap.size+1,0,none⟩) 0 (1+9*(l+1))] 157 (0,0)):=by
   rw [hgrow.block _ (by rw [World.size_alloc,HS2.out];omega) (by intro e;have:=Option.some.inj e;change w.heap.size+2=w.heap.size+1 at this;omega),Below.heap_alloc _ _ _ (by rw [HS2.out];omega)]
   exact HH2.out.2.2
 have hb1:Below w.heap.size w w1:=(HB2.out.alloc (by rw [HS2.out];omega) _).grown hgrow (by rw [World.size_alloc,HS2.out];omega) (fun r e=>by have:=Option.some.inj e;change w.heap.size+1=r at this;omega)
 have hg0:g0≠w.heap.size+2:=by
   obtain ⟨cur,hh,_⟩:=row_block hown1
   intro e
   rw [e,j2] at hh
   injection hh with hh
   injection hh with _ h2 _
   cases h2
 have m3:w1.cell? ⟨w.heap.size+1+1,0,none⟩=some (Value.slice (some ⟨w.heap.size+1,0,none⟩) 0 (1+9*(l+1))):=zA j2
 have m4:w1.frozen? ⟨w.heap.size+1+1,0,none⟩=false:=zD j2
 have m5:w1.cell? ⟨w.heap.size,1,none⟩=some (Value.slice (some ⟨b,o,none⟩) (l+1) c):=zA j0
 have J0:=Lib.hid j0
 have J2:=Lib.hid j2
 have HO1:=Lib.hid hown1
 have HB1:=Lib.hid hb1
 have HS1:=Lib.hid hs1
 clear hgrow j0 j2 hown1 hb1 hs1 HH2 HB2 HS2 HOWN2 hz0 hz1 hz2 hi
 go_wp2
 obtain ⟨W3,hW3⟩:∃ W3,w1.setCell ⟨w.heap.size+1+1,0,none⟩ (Value.slice (some ⟨g0,0,none⟩) 1 cp0)=W3:=⟨_,rfl⟩
 have hs3:w.heap.size+3≤W3.heap.size:=by rw [← hW3,World.size_setCell];have:=HS1.out;omega
 have k0:W3.heap[w.heap.size]? = some (Obj.cells #[Value.bool true,Value.slice (some ⟨b,o,none⟩) (l+1) c] 137 (0,0)):=by rw [← hW3,heap_set_other _ _ _ _ _ (by omega)];exact J0.out
 have k2:W3.heap[w.heap.size+2]? = some (Obj.cells #[Value.slice (some ⟨g0,0,none⟩) 1 cp0] 157 (0,0)):=by rw [← hW3];exact box_set J2.out
 have hb3:Below w.heap.size w W3:=by rw [← hW3];exact HB1.out.setCell (p:=⟨w.heap.size+1+1,0,none⟩) (by show w.heap.size≤w.heap.size+1+1;omega) _
 have hown:W3.ownsRow (w.heap.size+1) 5 1 (Value.slice (some ⟨g0,0,none⟩) 1 cp0) 1 (Lib.byteCells [45]):=by rw [← hW3];exact ownsRow_setCell_other HO1.out (by intro e;exact hg0 (Option.some.inj e)) _
 rw [hW3]
 clear hW3 m3 m4 m5 J0 J2 HO1 HB1 HS1
 have c3:W3.cell? ⟨w.heap.size+1+1,0,none⟩=some (Value.slice (some ⟨g0,0,none⟩) 1 cp0):=zA k2
 have c1:W3.cell? ⟨w.heap.size,1,none⟩=some (Value.slice (some ⟨b,o,none⟩) (l+1) c):=zA k0
 have cb:W3.cell? ⟨b,o+l,none⟩=some (Value.int .i64 top):=(hb3.cell (p:=⟨b,o+l,none⟩) hb).trans hct
 have K0:=Lib.hid k0
 have K2:=Lib.hid k2
 have HS3:=Lib.hid hs3
 clear k0 k2 hs3
 have T3 : Lib.TabBelow Tryz.prog (w.heap.size + 1) W3 "internal/strconv.uint64pow10" .u64 Lib.pow10Tab := fun w' h' => (E.below (hb3.trans (h'.mono (by omega)))).tab
 have hlc1:(l:Int)≤(c:Int):=by omega
 have hli:(l:Int) < (l:Int)+1:=by omega
 have hl0:¬ (l:Int) < 0:=by omega
 have hl1:(0:Int)≤(l:Int):=by omega
 go_still_tail 6,(by kernel_rfl)
 obtain ⟨W4,hW4⟩:∃ W4,W3.drew=W4:=⟨_,rfl⟩
 have hown4:W4.ownsRow (w.heap.size+1) 5 1 (Value.slice (some ⟨g0,0,none⟩) 1 cp0) 1 (Lib.byteCells ([45])):=by rw [← hW4];exact hown.drew
 have hb4:Below w.heap.size w W4:=by rw [← hW4];exact hb3.drew
 have T4 : Lib.TabBelow Tryz.prog (w.heap.size + 1) W4 "internal/strconv.uint64pow10" .u64 Lib.pow10Tab := by rw [← hW4]; exact T3.on (Below.refl _ _).drew
 have HS4:Hid (w.heap.size+3≤W4.heap.size):=by rw [← hW4];exact HS3
 have G0:Hid (W4.heap[w.heap.size]? = some (Obj.cells #[Value.bool true,Value.slice (some ⟨b,o,none⟩) (l+1) c] 137 (0,0))):=by rw [← hW4];exact K0
 have G2:Hid (W4.heap[w.heap.size+2]? = some (Obj.cells #[Value.slice (some ⟨g0,0,none⟩) 1 cp0] 157 (0,0))):=by rw [← hW4];exact K2
 have c3:W4.cell? ⟨w.heap.size+1+1,0,none⟩=some (Value.slice (some ⟨g0,0,none⟩) 1 cp0):=zA G2.out
 have c1:W4.cell? ⟨w.heap.size,1,none⟩=some (Value.slice (some ⟨b,o,none⟩) (l+1) c):=zA G0.out
 have cb:W4.cell? ⟨b,o+l,none⟩=some (Value.int .i64 top):=(hb4.cell (p:=⟨b,o+l,none⟩) hb).trans hct
 change wpList _ _ _ _ _ W3.drew
 rw [hW4]
 clear hW4 hb3 hown T3 K0 K2 HS3
 have HT:=Lib.hid htin
 have tlo : -9223372036854775808≤top:=by omega
 have thi:top≤9223372036854775807:=by omega
 have CI:=Lib.hid (Tryz.strconv_AppendInt_10 (w.heap.size+1) 1 top tlo thi (Value.slice (some ⟨g0,0,none⟩) 1 cp0) (Lib.byteCells ([45])) W4 hown4 (by have:=HS4.out;omega) (by omega) T4)
 clear hown4 T4 htin tlo thi
 go_wp2_with (go_at_call 125;refine CI.out.mono ?_;rintro e w5 ⟨v5,rfl,hown5,hb5,hk5⟩;refine Hid.out ?_)
 refine Lib.hid ?_
 rw [HIT.out] at hown5
 have hlen5:0 < 1+(Lib.decDigits top.toNat).length:=by have:=List.length_pos_iff.2 (decDigits_ne top.toNat);omega
 obtain ⟨n5,hn5⟩:∃ n5,1+(Lib.decDigits top.toNat).length=n5:=⟨_,rfl⟩
 obtain ⟨ds,hds⟩:∃ ds,[45] ++ Lib.decDigits top.toNat=ds:=⟨_,rfl⟩
 have hx5:Lib.byteCells ([45]) ++ Lib.byteCells (Lib.decDigits top.toNat)=Lib.byteCells ds:=by rw [← hds];unfold Lib.byteCells;rw [List.map_append]
 rw [hn5] at hown5 hlen5
 rw [hx5] at hown5
 have hdsl:ds.length=n5:=by rw [← hds,← hn5,List.length_append];rfl
 have e2:w5.heap[w.heap.size+2]? = some (Obj.cells #[Value.slice (some ⟨g0,0,none⟩) 1 cp0] 157 (0,0)):=hk5 _ _ G2.out (by simp) (fun c fz h=>by injection h with _ h2 _;cases h2)
 have e0:w5.heap[w.heap.size]? = some (Obj.cells #[Value.bool true,Value.slice (some ⟨b,o,none⟩) (l+1) c] 137 (0,0)):=(hb5.block _ (by omega)).trans G0.out
 have H2:=Lib.hid e2
 have x3:w5.cell? ⟨w.heap.size+1+1,0,none⟩=some (Value.slice (some ⟨g0,0,none⟩) 1 cp0):=zA e2
 have x4:w5.frozen? ⟨w.heap.size+1+1,0,none⟩=false:=zD e2
 have x1:w5.cell? ⟨w.heap.size,1,none⟩=some (Value.slice (some ⟨b,o,none⟩) (l+1) c):=zA e0
 have hb6:Below w.heap.size w w5:=hb4.trans (hb5.mono (by omega))
 obtain ⟨g5,cp5,rfl⟩:=Joins.ownsRow_form hown5 hlen5
 have HO:=Lib.hid hown5
 have hs5:w.heap.size+3≤w5.heap.size:=by have h2:=HS4.out;have h3:=hb5.size;omega
 have HB6:=Lib.hid hb6
 have HS5:=Lib.hid hs5
 have HDS:=Lib.hid hds
 have HN5:=Lib.hid hdsl
 clear e2 e0 hb4 hown5 hk5 hb5 hx5 hs5 hb6 hlen5 hds hn5 hdsl c3 c1 cb CI G0 G2 HS4
 go_wp2_with (go_at_call 137;refine (callsIn_wide.1 (backward_in 3 _ _ _ _)).mono ?_;rintro e w6 ⟨rfl,rfl⟩)
 obtain ⟨W7,hW7⟩:∃ W7,(w5.setCell ⟨w.heap.size+1+1,0,none⟩ (Value.slice (some ⟨g5,0,none⟩) n5 cp5)).alloc (Obj.cells #[Value.slice (some ⟨b,o,none⟩) l c] 135)=W7:=⟨_,rfl⟩
 have hg5:g5≠w.heap.size+1+1:=by
   obtain ⟨cur,hh,_⟩:=row_block HO.out
   intro e
   rw [show g5=w.heap.size+2 from e,H2.out] at hh
   injection hh with hh
   injection hh with _ h2 _
   cases h2
 have hO7:W7.ownsRow (w.heap.size+1) 5 1 (Value.slice (some ⟨g5,0,none⟩) n5 cp5) n5 (Lib.byteCells ds):=by
   rw [← hW7];exact (ownsRow_setCell_other HO.out (by intro e;exact hg5 (Option.some.inj e)) _).alloc _
 have hs7:W7.heap.size=w5.heap.size+1:=by rw [← hW7];simp [World.size_setCell]
 have hb7:Below w.heap.size w W7:=by rw [← hW7];exact (HB6.out.setCell (p:=⟨w.heap.size+1+1,0,none⟩) (by show w.heap.size≤w.heap.size+1+1;omega) _).alloc (by have:=HS5.out;simp [World.size_setCell];omega) _
 have y2:W7.heap[w.heap.size+2]? = some (Obj.cells #[Value.slice (some ⟨g5,0,none⟩) n5 cp5] 157 (0,0)):=by
   rw [← hW7,Below.heap_alloc _ _ _ (by have:=HS5.out;simp [World.size_setCell];omega)]
   exact box_set H2.out
 have y7:W7.heap[w5.heap.size]? = some (Obj.cells #[Value.slice (some ⟨b,o,none⟩) l c] 135 (0,0)):=by
   rw [← hW7]
   have:=World.alloc_heap_new (w5.setCell ⟨w.heap.size+1+1,0,none⟩ (Value.slice (some ⟨g5,0,none⟩) n5 cp5)) (Obj.cells #[Value.slice (some ⟨b,o,none⟩) l c] 135)
   rwa [World.size_setCell] at this
 rw [hW7]
 have hs5:=HS5.out
 refine (wpIn_wide (n:=5)).1 ?_
 refine wpIn_rangeFunc_ownF rfl (by omega) (gf:=165) (lb:=#[.pointer (some ⟨w5.heap.size,0,none⟩)]) rfl trivial (enters_of Tryz.func165 (by kernel_rfl) rfl)
   (backwardk_stops 4 w5.heap.size b o l c w.heap.size xs W7 (by omega) (by omega) hb (by omega) (by omega) (zA y7) (fun i hi=>(hb7.cell (p:=⟨b,o+i,none⟩) hb).trans (HCELL.out i (by omega)))) kpB_t (fun W l' o' o'' => kpB_b (by omega) (by omega) W l' o' o'') (Below.refl _ _) (fun _=>rfl)
   (TextI w xs ds n5 w5.heap.size b o l c) (fun _ _ _=>False)
   (textI_own w xs ds n5 w5.heap.size b o l c _ (by omega))
   (fun _ _ _ _ _ hs _ _=>hs)
   (textI_start HN5.out y2 hO7 y7 hb7)
   ?a1 ?assign ?body ?done ?stop
 case assign =>
   intro l' x W K hK
   gi_wp2
   exact hK
 case body =>
   intro l' pre x W hI hlen
   obtain ⟨⟨g,cp,hbx,hown⟩,hit7,hbel⟩:=hI
   have q3:W.cell? ⟨w.heap.size+1+1,0,none⟩=some (Value.slice (some ⟨g,0,none⟩) (n5+9*pre.length) cp):=zA hbx
   obtain ⟨px,hpx⟩:∃ px:Nat,xs[x]?.getD 0=px:=⟨(xs[x]?.getD 0).toNat,by have:=HIN.out x;omega⟩
   have hpl:=HIN.out x
   have hsz7:=hbel.size
   have hszW:w.heap.size+3≤W.heap.size:=by
     have h1:w5.heap.size < W.heap.size:=by
       by_cases hn:w5.heap.size < W.heap.size
       · exact hn
       · rw [Array.getElem?_eq_none (by omega)] at hit7;cases hit7
     omega
   have hdn:=HN5.out
   have hd9:(Lib.decDigits top.toNat).length≤9:=dec_len_le _ 9 (by have:=HT.out;show _ < 1000000000;omega) (by decide)
   have hds10:ds.length≤10:=by rw [← HDS.out];simp;omega
   rw [hpx] at hpl
   have AP:=Lib.hid (appendPiece_any (w.heap.size+1) _ _ _ px W (by omega) (by omega) hown (by omega))
   have HBX:=Lib.hid hbx
   have HIT7:=Lib.hid hit7
   have HBEL:=Lib.hid hbel
   have HPX:=Lib.hid hpx
   rw [hpx]
   clear hbx hit7 hbel hpx hown hpl hsz7 hdn hd9 hds10
   gi_wp2_with (refine ⟨trivial,?_⟩;gi_at_call 138;refine (CallsIn.inRound l' (callsIn_wide.2 AP.out)).mono ?_;rintro e W8 ⟨v8,rfl,hown8,hgr⟩;refine Hid.out ?_)
   refine Lib.hid ?_
   obtain ⟨g8,cp8,rfl⟩:=Joins.ownsRow_form hown8 (by omega)
   have b8:W8.heap[w.heap.size+2]? = some (Obj.cells #[Value.slice (some ⟨g,0,none⟩) (n5+9*pre.length) cp] 157 (0,0)):=hgr.keep _ _ HBX.out (fun cs fz h=>by injection h with _ h2 _;cases h2)
   have i8:W8.heap[w5.heap.size]? = some (Obj.cells #[Value.slice (some ⟨b,o,none⟩) l c] 135 (0,0)):=hgr.keep _ _ HIT7.out (fun cs fz h=>by injection h with _ h2 _;cases h2)
   have r3:W8.cell? ⟨w.heap.size+1+1,0,none⟩=some (Value.slice (some ⟨g,0,none⟩) (n5+9*pre.length) cp):=zA b8
   have r4:W8.frozen? ⟨w.heap.size+1+1,0,none⟩=false:=zD b8
   have hg8:g8≠w.heap.size+1+1:=by
     obtain ⟨cur,hh,_⟩:=row_block hown8
     intro e
     rw [show g8=w.heap.size+2 from e,b8] at hh
     injection hh with hh
     injection hh with _ h2 _
     cases h2
   have HG:=Lib.hid hgr
   have HO8:=Lib.hid hown8
   have B8:=Lib.hid b8
   have I8:=Lib.hid i8
   clear hgr hown8 b8 i8
   gi_wp2
   refine ⟨⟨?_,?_⟩,⟨?_,?_⟩,?_⟩
   · rw [World.size_setCell];exact HG.out.below.size
   · intro k ob hk hc
     have h1:=HG.out.keep k ob hk (fun cs fz e=>by rw [e] at hc;cases hc)
     rw [heap_set_other _ _ _ _ _ (fun e=>?_)]
     · exact h1
     · rw [show k=w.heap.size+2 from e,B8.out] at h1
       obtain rfl:=Option.some.inj h1
       cases hc
   · exact (HG.out.below.mono (by omega)).setCell (p:=⟨w.heap.size+1+1,0,none⟩) (by show w.heap.size≤w.heap.size+1+1;omega) _
   · rw [heap_set_other _ _ _ _ _ (by omega),I8.out,HIT7.out]
   · have e9:n5+9*(pre ++ [x]).length=n5+9*pre.length+9:=by simp;omega
     have e10:Lib.byteCells (ds ++ lows xs (pre ++ [x]))=Lib.byteCells (ds ++ lows xs pre) ++ Lib.byteCells (low 9 px):=by
       rw [lows_snoc,HPX.out];unfold Lib.byteCells;simp
     refine ⟨⟨g8,cp8,?_,?_⟩,?_,?_⟩
     · rw [e9];exact box_set B8.out
     · rw [e9,e10];exact ownsRow_setCell_other HO8.out (by intro e;exact hg8 (Option.some.inj e)) _
     · rw [heap_set_other _ _ _ _ _ (by omega)];exact I8.out
     · exact (HBEL.out.trans (HG.out.below.mono (by omega))).setCell (p:=⟨w.heap.size+1+1,0,none⟩) (by show w.heap.size≤w.heap.size+1+1;omega) _
 case done =>
   rintro D ys W hD rfl ⟨⟨g,cp,hbx,hown⟩,_,hB⟩ hK
   have hq:n5+9*(bl l l).length=(ds ++ lows xs (bl l l)).length:=by rw [List.length_append,lows_length,HN5.out]
   rw [hq] at hbx hown
   have hres:ds ++ lows xs (bl l l)=[45] ++ Lib.decDigits X:=by rw [← HDS.out,List.append_assoc,HDL.out]
   have HRES:=Lib.hid hres
   obtain ⟨all,hall⟩:∃ all,ds ++ lows xs (bl l l)=all:=⟨_,rfl⟩
   rw [hall] at hbx hown HRES
   have q3:W.cell? ⟨w.heap.size+1+1,0,none⟩=some (Value.slice (some ⟨g,0,none⟩) all.length cp):=zA hbx
   have hcs:∀ j (hj:j < all.length),W.cell? ⟨g,j,none⟩=some (.int .u8 (all[j].toNat:Int)):=fun j hj=>by
     obtain ⟨cur,hh,ht⟩:=row_block hown
     have:=Lib.bytes_of_row hh (l:=all) ht j hj
     rwa [addr_add] at this
   have hconv:=run_convert_bytes_back (P:=Tryz.prog) W 157 90 5 ⟨g,0,none⟩ cp all Tryz.underlying157 Tryz.underlying5 Tryz.underlying90 (fun j hj=>by rw [addr_add];exact hcs j hj)
   have HB:=Lib.hid hB
   clear hbx hown hq hres hcs hB hall
   go_wp2
   refine ⟨by simp,.inl ⟨_,_,rfl,run_takeDeferred hK,?_⟩⟩
   exact ⟨_,results_tmp rfl _ _ _,by rw [HRES.out];rfl,HB.out.trans (belowK_b (w:=w) (Nat.le_refl _) W D _ _ (by omega) hK rfl rfl)⟩
 case stop =>
   rintro D c pre W _ _ h _
   exact h.elim
end Go.Proofs.YtpiiclmkbplkhaaGreatDoor.Kl
namespace Go.Proofs.YtpiiclmkbplkhaaGreatDoor.Kl
open Go Go.RowKit
set_option maxRecDepth 100000
set_option maxHeartbeats 8000000
theorem text_zero (m:Bool) (p:Option Addr) (c:Nat) (w:World) :
   Calls Tryz.prog 109 #[.agg #[.bool m,.slice p 0 c]] w (Ret w (.string ⟨#[48]⟩)):=by
 go_enter Tryz.func109,Tryz.ntmps109
 go_wp2
 go_ret
 exact ⟨rfl,(Below.refl _ _).alloc (Nat.le_refl _) _⟩
theorem text_sm (m:Bool) (p:Option Addr) (n c X:Nat) (w:World) (E:Env w) (h:Sm w p n c X) (hX:(pcM X).length≤100000) :
   Calls Tryz.prog 109 #[.agg #[.bool m,.slice p n c]] w (Ret w (.string (itoaB (sgI m X)))):=by
 by_cases h0:X=0
 · subst h0
   have hn:=h.len
   rw [pcM_zero] at hn
   obtain rfl:n=0:=hn
   rw [show sgI m 0=0 by cases m <;> rfl,show itoaB 0=⟨#[48]⟩ from itoa_zero]
   exact text_zero m p c w
 · rcases h.has with hx | ⟨b,o,rfl,hlt,hc⟩
   · exact absurd (pcM_nil (by rw [hx];rfl)) h0
   · obtain ⟨l,hl⟩:∃ l,(pcM X).length=l+1:=by
       rcases hq:(pcM X).length with _ | l
       · exact absurd (pcM_nil hq) h0
       · exact ⟨l,rfl⟩
     have hn:=h.len
     have hcap:=h.cap
     rw [hl] at hn hX hc
     subst hn
     cases m with
     | false =>
       have:=text_plus b o c l X w E hl (by omega) hcap hlt hc
       rwa [show strOf ([] ++ Lib.decDigits X)=itoaB (sgI false X) by unfold itoaB;rw [sgI_f,itoa_nat _ (by omega)];rfl] at this
     | true =>
       have:=text_minus b o c l X w E hl (by omega) hcap hlt hc
       rwa [show strOf ([45] ++ Lib.decDigits X)=itoaB (sgI true X) by
         unfold itoaB;rw [sgI_t,← sgn_of (-(X:Int)) true X (by omega) (fun _=>by rw [decide_eq_true (by omega)])]
         unfold sgn;rw [decide_eq_true (by omega:0 < X)];rfl] at this
end Go.Proofs.YtpiiclmkbplkhaaGreatDoor.Kl
