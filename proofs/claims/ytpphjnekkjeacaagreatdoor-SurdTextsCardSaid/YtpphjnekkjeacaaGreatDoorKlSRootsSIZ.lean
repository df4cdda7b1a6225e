import Derived.Laws.AppendOwn
import Derived.OwnWalk
import Derived.Deep.RegionHeldLaw
import Derived.Deep.AppendLies
import Derived.Test.YtpphjnekkjeacaaGreatDoorKlSRootsSEZ
namespace Go.Proofs.YtpphjnekkjeacaaGreatDoor.Kl
open Go Go.RowKit
set_option maxRecDepth 100000
set_option maxHeartbeats 8000000
def cellsL (ts:List Tm):List Value:=ts.flatMap cellsT
theorem cellsL_len : ∀ ts:List Tm,(cellsL ts).length=ts.length*2
 | [] => rfl
 | t :: r=>by
   show (cellsT t ++ cellsL r).length=_
   rw [List.length_append,cellsL_len r,List.length_cons]
   show 2+r.length*2=_
   omega
theorem cellsL_at : ∀ (ts:List Tm) (i:Nat) (t:Tm),ts[i]? = some t→(cellsL ts)[i*2]? = some (.string (ratB t.1))∧(cellsL ts)[i*2+1]? = some (.string (itoaB (t.2:Int)))
 | [],i,t,h=>by simp at h
 | u :: r,0,t,h=>by injection h with h;subst h;exact ⟨rfl,rfl⟩
 | u :: r,i+1,t,h=>by
   have:=cellsL_at r i t (by simpa using h)
   show (cellsT u ++ cellsL r)[(i+1)*2]? = _∧(cellsT u ++ cellsL r)[(i+1)*2+1]? = _
   rw [show (i+1)*2=i*2+2 by omega,show i*2+2+1=i*2+1+2 by omega,List.getElem?_append_right (by show 2≤_;omega),List.getElem?_append_right (by show 2≤_;omega)]
   exact this
theorem cellsL_snoc (ts:List Tm) (t:Tm):cellsL (ts ++ [t])=cellsL ts ++ cellsT t:=by
 unfold cellsL;rw [List.flatMap_append];simp
theorem own_hasT {w:World} {base:Nat} {T:TypeId} {v:Value} {n:Nat} {ts:List Tm} (h:w.ownsRow base T 2 v n (cellsL ts)) :
   n=ts.length∧∃ p c,v = .slice p n c∧n≤c∧c≤maxLen∧HasT w p ts:=by
 have hl:=h.1
 rw [cellsL_len] at hl
 have hn:n=ts.length:=by omega
 refine ⟨hn,?_⟩
 have hc:=h
 rcases h.2 with ⟨rfl,h0⟩ | ⟨g,cap,cur,rfl,_,_,h1,h2,_⟩
 · have:ts=[]:=List.length_eq_zero_iff.1 (by omega)
   subst this
   exact ⟨none,0,by rw [h0],by omega,by unfold maxLen;omega,HasT.nil _ _⟩
 · refine ⟨some ⟨g,0,none⟩,cap,rfl,h1,h2,fun i t ht=>⟨g,rfl,?_,?_⟩⟩
   · have:=hc.cells (g:=g) rfl (i*2) _ (cellsL_at ts i t ht).1
     rwa [Addr.add_lit,Nat.zero_add] at this
   · have:=hc.cells (g:=g) rfl (i*2+1) _ (cellsL_at ts i t ht).2
     rwa [Addr.add_lit,Nat.zero_add] at this
def RetL (w:World) (ts:List Tm) (e:Ending) (w':World):Prop:=
 ∃ (p:Option Addr) (n c:Nat),e = .returned (.slice p n c)∧n=ts.length∧n≤c∧HasT w' p ts∧Below w.heap.size w w'
theorem RetL.mk {w:World} {ts:List Tm} {w':World} (p:Option Addr) (n c:Nat) (h1:n=ts.length) (h2:n≤c) (h4:HasT w' p ts) (h5:Below w.heap.size w w'):RetL w ts (.returned (.slice p n c)) w':=⟨p,n,c,rfl,h1,h2,h4,h5⟩
theorem cell_alloc_drew {w:World} {a:Addr} {v:Value} (h:w.cell? a=some v) {o:Obj}:((w.alloc o).drew).cell? a=some v:=Lib.cell?_alloc_some o h
theorem newsT (w:World) (s rb:ByteArray) (T:TypeId):∀ (j:Nat) (u:Value),([.string s,.string rb]:List Value)[j]? = some u→(w.alloc (Obj.cells #[Value.string s,Value.string rb] T)).cell? ((⟨w.heap.size,0,none⟩:Addr).add j)=some u:=fun j u h=>by
 rw [Addr.add_lit,Nat.zero_add]
 match j,h with
 | 0,h=>exact blk_cell (World.alloc_heap_new w _) 0 h
 | 1,h=>exact blk_cell (World.alloc_heap_new w _) 1 h
 | j+2,h=>simp at h
theorem infoRT : (Tryz.prog.info? 39).map (fun i=>(i.zero,i.size,i.bytes))=some (some (.agg #[.string ⟨#[]⟩,.string ⟨#[]⟩]),2,32):=by kernel_rfl
theorem plain_any (p:Option Addr) (n c:Nat) (ts:List Tm) (hn:n=ts.length) (hm:n≤1000) (w:World) (h:HasT w p ts) :
   Calls Tryz.prog 18 #[.slice p n c] w (RetL w ts):=by
 obtain ⟨i0,hi,hz0,hz1,hz2⟩:=info_parts infoRT
 have H:=Lib.hid h
 have HN:=Lib.hid hn
 clear h hn
 go_enter Tryz.func18,Tryz.ntmps18
 go_wp2
 go_loopw [3,4] (fun v i wr=>∃ k:Nat,k≤n∧i = .int .i64 k∧wr.ownsRow w.heap.size 39 2 v k (cellsL (ts.take k))∧Below w.heap.size w wr) (fun _ i _=>n - (intOf i).toNat)
 case atStart=>exact ⟨0,Nat.zero_le _,rfl,World.ownsRow_nil _ _ _ _,Below.refl _ _⟩
 case round =>
   obtain ⟨k,hk,rfl,hown,hb⟩:=hrel
   by_cases hlt:k < n
   · obtain ⟨t,ht⟩:∃ t,ts[k]? = some t:=⟨_,List.getElem?_eq_getElem (by rw [← HN.out];exact hlt)⟩
     obtain ⟨b,rfl,c0,c1⟩:=H.out k t ht
     have x0:wr.cell? ⟨b,k*2,none⟩=some (.string (ratB t.1)):=zC hb c0
     have x1:wr.cell? ⟨b,k*2+1,none⟩=some (.string (itoaB (t.2:Int))):=zC hb c1
     have HT:=Lib.hid ht
     have HO:=Lib.hid hown
     obtain ⟨s,hs⟩:∃ s,ratB t.1=s:=⟨_,rfl⟩
     obtain ⟨rb,hr⟩:∃ s,itoaB (t.2:Int)=s:=⟨_,rfl⟩
     rw [hs] at x0
     rw [hr] at x1
     have c0':=c0
     clear c0 c1 ht hown
     have h1:(k:Int) < (n:Int):=by omega
     have h2:(0:Int)≤(k:Int):=by omega
     have hsnoc:cellsL (ts.take (k+1))=cellsL (ts.take k) ++ [.string s,.string rb]:=by
       rw [List.take_add_one,HT.out,← hs,← hr];exact cellsL_snoc _ _
     have HS:=Lib.hid hsnoc
     clear hs hr hsnoc
     have hlt0:b < w.heap.size:=Lib.lt_of_cell c0'
     have hob:∀ o,(wr.drew.alloc o).ownsRow w.heap.size 39 2 u3 k (cellsL (ts.take k)):=fun o=>World.ownsRow.alloc (World.ownsRow.drew HO.out) o
     have hnb:u3.ownBlock≠some b:=fun e=>by have:=(HO.out.lt b e).1;omega
     have hsz:w.heap.size≤wr.heap.size:=hb.size
     go_wp2
     go_region_held_law (fun w' => w'.cell? ⟨b,k*2,none⟩=some (.string s)∧w'.cell? ⟨b,k*2+1,none⟩=some (.string rb))
       (first | exact ⟨x0,x1⟩ | exact ⟨cell_alloc_drew x0,cell_alloc_drew x1⟩ | exact ⟨(World.grownBy.cell hgrow (cell_alloc_drew x0) (fun e=>hnb e.symm)),(World.grownBy.cell hgrow (cell_alloc_drew x1) (fun e=>hnb e.symm))⟩)
       (first | (refine step_append_lies _ rfl _ _ 30 rfl w.heap.size 39 i0 (.agg #[.string ⟨#[]⟩,.string ⟨#[]⟩]) 2 32 Tryz.underlying30 hi hz0 hz1 hz2 rfl (by decide) _ _ _ rfl (hob _) ⟨wr.heap.size,0,none⟩ 1 1 [.string s,.string rb] rfl rfl (newsT _ _ _ _) (by simp [Value.oneCell']) (by decide) (by unfold maxLen;omega) (by omega) (by simp;omega) _ rfl ?_;intro g cap w1 hown hgrow hat hlt))
     go_wp2
     have hg2:(wr.alloc (Obj.cells #[Value.string s,Value.string rb] 39)).drew.grownBy w1 u3.ownBlock:=hgrow
     have hbw:Below w.heap.size w w1:=((hb.alloc hsz (Obj.cells #[Value.string s,Value.string rb] 39)).drew).grown hg2 (by simp;omega) (fun j hj=>(HO.out.lt j hj).1)
     go_roundw
     case rel=>exact ⟨k+1,by omega,by go_num,by rw [HS.out];exact hown,hbw⟩
     case measure=>simp [intOf];omega
   · have hkn:k=n:=by omega
     subst hkn
     rw [List.take_of_length_le (by rw [← HN.out];omega)] at hown
     obtain ⟨_,q,d,rfl,hd,_,hq⟩:=own_hasT hown
     have HQ:=Lib.hid hq
     clear hown hq
     go_wp2
     go_ret
     exact RetL.mk _ _ _ HN.out hd HQ.out hb
theorem text_dec (a b:ByteArray):(a.toList == b.toList)=decide (a=b):=by
 by_cases h:a=b
 · rw [decide_eq_true h];exact text_eq h
 · rw [decide_eq_false h];exact text_ne h
theorem same_any (p q:Option Addr) (n c m d:Nat) (ts us:List Tm) (hn:n=ts.length) (hm:m=us.length) (hn9:n≤1000) (hm9:m≤1000) (w:World) (h1:HasT w p ts) (h2:HasT w q us) :
   Calls Tryz.prog 17 #[.slice p n c,.slice q m d] w (Ret w (.bool (decide (ts=us)))):=by
 have H1:=Lib.hid h1
 have H2:=Lib.hid h2
 have HN:=Lib.hid hn
 have HM:=Lib.hid hm
 by_cases hnm:n=m
 · subst hnm
   clear h1 h2 hn hm
   go_enter Tryz.func17,Tryz.ntmps17
   go_wp2
   go_loopw [5] (fun i wr=>∃ k:Nat,k≤n∧i = .int .i64 k∧Hid (ts.take k=us.take k)∧Below w.heap.size w wr) (fun i _=>n - (intOf i).toNat)
   case atStart=>exact ⟨0,Nat.zero_le _,rfl,Lib.hid rfl,Below.refl _ _⟩
   case round =>
     obtain ⟨k,hk,rfl,HE,hb⟩:=hrel
     by_cases hlt:k < n
     · obtain ⟨t,ht⟩:∃ t,ts[k]? = some t:=⟨_,List.getElem?_eq_getElem (by rw [← HN.out];exact hlt)⟩
       obtain ⟨u,hu⟩:∃ u,us[k]? = some u:=⟨_,List.getElem?_eq_getElem (by rw [← HM.out];exact hlt)⟩
       obtain ⟨b,rfl,c0,c1⟩:=H1.out k t ht
       obtain ⟨b2,rfl,d0,d1⟩:=H2.out k u hu
       replace c0:=zC hb c0
       replace c1:=zC hb c1
       replace d0:=zC hb d0
       replace d1:=zC hb d1
       have e1:=text_dec (ratB t.1) (ratB u.1)
       have e2:=text_dec (itoaB (t.2:Int)) (itoaB (u.2:Int))
       have HT:=Lib.hid ht
       have HU:=Lib.hid hu
       clear ht hu
       have g1:(k:Int) < (n:Int):=by omega
       have g2:(0:Int)≤(k:Int):=by omega
       by_cases hf:ratB t.1=ratB u.1
       · rw [decide_eq_true hf] at e1
         by_cases hr:itoaB (t.2:Int)=itoaB (u.2:Int)
         · rw [decide_eq_true hr] at e2
           have HX:Hid (ts.take (k+1)=us.take (k+1)):=Lib.hid (by
             rw [List.take_add_one,List.take_add_one,HE.out,HT.out,HU.out]
             have:t=u:=Prod.ext (ratB_inj hf) (by have:=itoa_inj hr;omega)
             rw [this])
           generalize ratB t.1=s1 at c0 e1
           generalize ratB u.1=s2 at d0 e1
           generalize itoaB (t.2:Int)=s3 at c1 e2
           generalize itoaB (u.2:Int)=s4 at d1 e2
           clear hf hr
           go_wp2
           go_quiet (fail)
           go_wp2
           all_goals go_roundw
           all_goals first | exact ⟨k+1,by omega,by go_num,HX,Below.drews hb _⟩ | (simp [intOf];omega)
         · rw [decide_eq_false hr] at e2
           have HX:Hid (decide (ts=us)=false):=Lib.hid (decide_eq_false fun e=>by
             have:t=u:=Option.some.inj (HT.out.symm.trans (by rw [e];exact HU.out))
             rw [this] at hr
             exact hr rfl)
           generalize ratB t.1=s1 at c0 e1
           generalize ratB u.1=s2 at d0 e1
           generalize itoaB (t.2:Int)=s3 at c1 e2
           generalize itoaB (u.2:Int)=s4 at d1 e2
           clear hf hr
           go_wp2
           go_quiet (fail)
           go_wp2
           all_goals (go_ret;exact ⟨retB HX.out.symm,Below.drews hb _⟩)
       · rw [decide_eq_false hf] at e1
         have HX:Hid (decide (ts=us)=false):=Lib.hid (decide_eq_false fun e=>by
           have:t=u:=Option.some.inj (HT.out.symm.trans (by rw [e];exact HU.out))
           rw [this] at hf
           exact hf rfl)
         generalize ratB t.1=s1 at c0 e1
         generalize ratB u.1=s2 at d0 e1
         generalize itoaB (t.2:Int)=s3 at c1 e2
         generalize itoaB (u.2:Int)=s4 at d1 e2
         clear hf
         go_wp2
         go_quiet (fail)
         go_wp2
         all_goals (go_ret;exact ⟨retB HX.out.symm,Below.drews hb _⟩)
     · have hkn:k=n:=by omega
       subst hkn
       have HX:Hid (decide (ts=us)=true):=Lib.hid (decide_eq_true (by
         have:=HE.out
         rwa [List.take_of_length_le (by rw [← HN.out];omega),List.take_of_length_le (by rw [← HM.out];omega)] at this))
       go_wp2
       go_ret
       exact ⟨retB HX.out.symm,hb⟩
 · have HX:Hid (decide (ts=us)=false):=Lib.hid (decide_eq_false fun e=>hnm (by rw [HN.out,HM.out,e]))
   have e1:((n:Int) == (m:Int))=false:=by simp only [beq_eq_false_iff_ne,ne_eq];omega
   have e2:((n:Int) != (m:Int))=true:=by rw [bne,e1];rfl
   have hb:=Below.refl w.heap.size w
   clear h1 h2 hn hm hnm
   go_enter Tryz.func17,Tryz.ntmps17
   go_wp2
   go_ret
   exact ⟨retB HX.out.symm,hb⟩
theorem checkTerm_w (s rb:ByteArray) (e0:(s.toList == [48])=false) (h1:CR 45 #[.string s] (.int .i64 0)) (h2:CR 88 #[.string rb] (.int .i64 0))
   (h3:CR 92 #[.string rb] (.int .i64 1)) (w:World) (R:EnvR w) :
   Calls Tryz.prog 104 #[.agg #[.string s,.string rb]] w (Ret w (.int .i64 0)):=by
 have C1:=Lib.hid h1
 have C2:=Lib.hid h2
 have C3:=Lib.hid h3
 clear h1 h2 h3
 have hb:Below w.heap.size w (w.alloc (Obj.cells #[Value.string s,Value.string rb] 58)):=(Below.refl _ _).alloc (Nat.le_refl _) _
 have x1:(w.alloc (Obj.cells #[Value.string s,Value.string rb] 58)).cell? ⟨w.heap.size,0,none⟩=some (Value.string s):=by simp [go_sem]
 have x2:(w.alloc (Obj.cells #[Value.string s,Value.string rb] 58)).cell? ⟨w.heap.size,1,none⟩=some (Value.string rb):=by simp [go_sem]
 go_enter Tryz.func104,Tryz.ntmps104
 go_wp2_with (first | ((first | (go_at_call 45;with_reducible refine (chRB hb R C1).mono ?_) | (go_at_call 88;with_reducible refine (chRB hb R C2).mono ?_));clear hb;rintro e w1 ⟨rfl,hk,hb⟩;replace x1:=zC hk x1;replace x2:=zC hk x2;clear hk) | (go_at_call 92;with_reducible refine (chRA hb R C3).mono ?_;clear hb;rintro e w1 ⟨rfl,hb⟩))
 go_ret
 exact ⟨rfl,hb⟩
theorem checkTerm_ok (t:Tm) (h1:RL t.1 200) (h2:dlen (t.2:Int)≤200) (h0:t.1≠0) (hp:0 < t.2) (w:World) (R:EnvR w) :
   Calls Tryz.prog 104 #[.agg (cellsT t).toArray] w (Ret w (.int .i64 0)):=
 checkTerm_w _ _ (by rw [ratB_eq_zero];simpa using h0) (fun w R=>by
   have:=rcheck_rat t.1 (h1.mono (by decide)) w R
   rwa [rlB_iff.2 h1] at this) (fun w _=>by
   have:=icheck_any (t.2:Int) (by omega) w
   rwa [decide_eq_true h2] at this) (fun w _=>by
   have:=sign_any (t.2:Int) w
   rwa [Int.sign_eq_one_of_pos (by omega)] at this) w R
theorem s_rep48 : ∀ n:Nat,Lib.repeatL [48] n=List.replicate n 48
 | 0=>rfl
 | n+1=>by rw [Lib.repeatL,s_rep48 n,List.replicate_succ];rfl
theorem s_repeat (n:Nat) (hn:n≤1000000) (w:World) :
   Calls Tryz.prog 159 #[.string ⟨#[48]⟩,.int .i64 (n:Int)] w (Ret w (.string (strOf (List.replicate n 48)))):=
 (Tryz.strings_Repeat ⟨#[48]⟩ n w (by omega) (by show 1*n≤_;omega)).mono fun _ _ ⟨a,b⟩=>⟨a.trans (retS (by rw [s_rep48];rfl)),b⟩
theorem s_zeros : ∀ (p:Nat) (a:Nat),valFrom a (List.replicate p 48)=a*10 ^ p
 | 0,a=>by simp [valFrom]
 | p+1,a=>by
   rw [List.replicate_succ,valFrom_cons,s_zeros p,Nat.pow_succ]
   show (a*10+(48 - 48))*10 ^ p=_
   rw [Nat.sub_self,Nat.add_zero,Nat.mul_assoc,Nat.mul_comm 10]
theorem s_pow (p:Nat):Lib.decDigits (10 ^ p)=49 :: List.replicate p 48:=by
 have hv:val (49 :: List.replicate p 48)=10 ^ p:=by
   unfold val;rw [valFrom_cons,s_zeros]
   show (0*10+(49 - 48))*10 ^ p=_
   simp
 have:=dec_of_canon (m:=49 :: List.replicate p 48) (by
   rw [List.all_cons,Bool.and_eq_true]
   refine ⟨by decide,List.all_eq_true.2 fun c hc=>?_⟩
   rw [(List.mem_replicate.1 hc).2];decide) (by simp) (fun h=>by simp at h)
 rw [hv] at this
 exact this.symm
theorem s_powText (p:Nat):(⟨#[49]⟩:ByteArray) ++ strOf (List.replicate p 48)=itoaB ((10 ^ p:Nat):Int):=by
 refine dat_inj ?_
 rw [ByteArray.data_append,Array.toList_append,strOf_data]
 show 49 :: List.replicate p 48=(strOf (Lib.itoa _)).data.toList
 rw [strOf_data,itoa_nat _ (Int.natCast_nonneg _),Int.toNat_natCast,s_pow]
theorem power_any (n:Nat) (hn:n≤100000) (w:World) :
   Calls Tryz.prog 114 #[.int .i64 (n:Int)] w (Ret w (.string (itoaB ((10 ^ n:Nat):Int)))):=by
 have C1:=Lib.hid (fun w=>s_repeat n (by omega) w)
 rw [← s_powText]
 have zs:(strOf (List.replicate n 48)).size≤100000:=by rw [strOf_size,List.length_replicate];exact hn
 have hb:=Below.refl w.heap.size w
 go_enter Tryz.func114,Tryz.ntmps114
 go_wp2_with (go_at_call 159;(with_reducible refine (chain hb (C1.out _)).mono ?_);clear hb;rintro e w1 ⟨rfl,hb⟩)
 go_ret
 exact ⟨rfl,hb⟩
def sizeT (S:Nat) (t:Tm):Int:=
 let q:Int:=(rootN (t.1.num.natAbs*S*(t.1.num.natAbs*S)*t.2):Int) / t.1.den
 if t.1.num < 0 then -1 - q else q
def lowT (S:Nat) (ts:List Tm):Int:=(ts.map (sizeT S)).sum
theorem lowT_snoc (S:Nat) (ts:List Tm) (t:Tm):lowT S (ts ++ [t])=lowT S ts+sizeT S t:=by
 unfold lowT
 rw [List.map_append,List.sum_append]
 simp
theorem sizeT_dlen {S:Nat} {t:Tm} (hS:dlen (S:Int)≤8000) (h1:RL t.1 2000) (h2:dlen (t.2:Int)≤2000):dlen (rootN (t.1.num.natAbs*S*(t.1.num.natAbs*S)*t.2):Int)≤22000:=by
 have e1:dlen ((t.1.num.natAbs*S:Nat):Int)≤10000:=dlen_natc _ _ 2000 8000 (by decide) (by unfold dlen;rw [Int.natAbs_natCast];exact h1.1) hS
 have e2:dlen ((t.1.num.natAbs*S*(t.1.num.natAbs*S):Nat):Int)≤20000:=dlen_natc _ _ 10000 10000 (by decide) e1 e1
 exact rootN_dlen _ 22000 (by decide) (dlen_natc _ _ 20000 2000 (by decide) e2 h2)
theorem dlen_quo (z d:Int) (K:Nat) (hK:0 < K) (hz:0≤z) (hd:0 < d) (h:dlen z≤K):dlen (z / d)≤K:=by
 obtain ⟨a,rfl⟩:=Int.eq_ofNat_of_zero_le hz
 obtain ⟨b,rfl⟩:=Int.eq_ofNat_of_zero_le (Int.le_of_lt hd)
 rw [← Int.natCast_ediv]
 exact dlen_nat_le _ (a:Int) K hK (by rw [Int.natAbs_natCast];exact Nat.div_le_self _ _) h
theorem sizeT_len {S:Nat} {t:Tm} (hS:dlen (S:Int)≤8000) (h1:RL t.1 2000) (h2:dlen (t.2:Int)≤2000):dlen (sizeT S t)≤22001:=by
 have hd:=t.1.den_pos
 have hq:=dlen_quo _ (t.1.den:Int) 22000 (by decide) (Int.natCast_nonneg _) (by omega) (sizeT_dlen hS h1 h2)
 unfold sizeT
 simp only
 split
 · rw [Int.sub_eq_add_neg]
   exact dlen_add _ _ 22000 (by decide) (by decide +kernel) (by rw [dlen_neg];exact hq)
 · omega
theorem lowT_len {S:Nat} (hS:dlen (S:Int)≤8000):∀ (ts:List Tm),(∀ t ∈ ts,RL t.1 2000∧dlen (t.2:Int)≤2000)→dlen (lowT S ts)≤22001+ts.length
 | [],_=>by show dlen 0≤_;exact Nat.le_trans (by decide +kernel) (Nat.le_add_right 22001 0)
 | t :: r,h=>by
   have ih:=lowT_len hS r (fun u hu=>h u (by simp [hu]))
   have ht:=sizeT_len hS (h t (by simp)).1 (h t (by simp)).2
   have e:lowT S (t :: r)=sizeT S t+lowT S r:=by unfold lowT;rw [List.map_cons,List.sum_cons]
   rw [e,List.length_cons,← Nat.add_assoc]
   exact dlen_add _ _ _ (by omega) (by omega) ih
theorem enclose_any (p:Option Addr) (n c:Nat) (ts:List Tm) (S:Nat) (hn:n=ts.length) (hm:n≤1000) (hS:dlen (S:Int)≤8000) (hf:∀ t ∈ ts,RL t.1 2000∧dlen (t.2:Int)≤2000) (w:World) (R:EnvR w) (h:HasT w p ts) :
   Calls Tryz.prog 113 #[.slice p n c,.string (itoaB (S:Int))] w (Ret w (.tuple #[.string (itoaB (lowT S ts)),.string (itoaB (lowT S ts+n))])):=by
 have hlow:∀ k,dlen (lowT S (ts.take k))≤23001:=fun k=>by
   have:=lowT_len hS (ts.take k) (fun t ht=>hf t (List.mem_of_mem_take ht))
   rw [List.length_take] at this
   omega
 have HL:=Lib.hid hlow
 have H:=Lib.hid h
 have HN:=Lib.hid hn
 have HF:=Lib.hid hf
 have HS:=Lib.hid hS
 clear h hn hf hlow hS
 obtain ⟨sb,hsb⟩:∃ v,itoaB (S:Int)=v:=⟨_,rfl⟩
 have HSB:=Lib.hid hsb
 have iz:itoaB 0=⟨#[48]⟩:=(itoa_eq_zero 0).2 rfl
 have i1:itoaB (-1)=⟨#[45,49]⟩:=by decide +kernel
 have HI1:=Lib.hid i1
 rw [hsb]
 clear hsb i1
 go_enter Tryz.func113,Tryz.ntmps113
 go_wp2
 go_loopw [4,18] (fun v i wr=>∃ k:Nat,k≤n∧i = .int .i64 k∧v = .string (itoaB (lowT S (ts.take k)))∧Below w.heap.size w wr) (fun _ i _=>n - (intOf i).toNat)
 case atStart=>exact ⟨0,Nat.zero_le _,rfl,by rw [← iz];rfl,Below.refl _ _⟩
 case round =>
   obtain ⟨k,hk,rfl,rfl,hb⟩:=hrel
   by_cases hlt:k < n
   · obtain ⟨t,ht⟩:∃ t,ts[k]? = some t:=⟨_,List.getElem?_eq_getElem (by rw [← HN.out];exact hlt)⟩
     obtain ⟨b,rfl,c0,c1⟩:=H.out k t ht
     have x0:wr.cell? ⟨b,k*2,none⟩=some (.string (ratB t.1)):=zC hb c0
     have x1:wr.cell? ⟨b,k*2+1,none⟩=some (.string (itoaB (t.2:Int))):=zC hb c1
     obtain ⟨hr1,hr2⟩:=HF.out t (List.mem_of_getElem? ht)
     have hl:=HL.out k
     have hsz:=sizeT_dlen HS.out hr1 hr2
     have hstl:=sizeT_len HS.out hr1 hr2
     have hd:=t.1.den_pos
     have hsn:lowT S (ts.take (k+1))=lowT S (ts.take k)+sizeT S t:=by
       rw [List.take_add_one,ht];exact lowT_snoc _ _ _
     have HSN:=Lib.hid hsn
     have na:(t.1.num.natAbs:Int)*(S:Int)=((t.1.num.natAbs*S:Nat):Int):=by rw [Int.natCast_mul]
     have e1:dlen ((t.1.num.natAbs*S:Nat):Int)≤10000:=dlen_natc _ _ 2000 8000 (by decide) (by unfold dlen;rw [Int.natAbs_natCast];exact hr1.1) HS.out
     have e2:dlen ((t.1.num.natAbs*S*(t.1.num.natAbs*S):Nat):Int)≤20000:=dlen_natc _ _ 10000 10000 (by decide) e1 e1
     have e3:dlen ((t.1.num.natAbs*S*(t.1.num.natAbs*S)*t.2:Nat):Int)≤22000:=dlen_natc _ _ 20000 2000 (by decide) e2 hr2
     have k1:=fun (w:World) (R:EnvR w)=>rparts_any t.1 w R (hr1.mono (by decide))
     have k2:CR 156 #[.string (itoaB t.1.num)] (.string (itoaB t.1.num.natAbs)):=fun w _=>abs_any _ w
     have k3:CR 96 #[.string (itoaB t.1.num.natAbs),.string (itoaB (S:Int))] (.string (itoaB ((t.1.num.natAbs*S:Nat):Int))):=fun w R=>by
       have:=mul_any (t.1.num.natAbs:Int) (S:Int) w R.env (by unfold dlen;rw [Int.natAbs_natCast];exact Nat.le_trans hr1.1 (by decide)) (Nat.le_trans HS.out (by decide))
       rwa [na] at this
     have k4:CR 96 #[.string (itoaB ((t.1.num.natAbs*S:Nat):Int)),.string (itoaB ((t.1.num.natAbs*S:Nat):Int))] (.string (itoaB ((t.1.num.natAbs*S*(t.1.num.natAbs*S):Nat):Int))):=fun w R=>by
       have:=mul_any ((t.1.num.natAbs*S:Nat):Int) ((t.1.num.natAbs*S:Nat):Int) w R.env (by omega) (by omega)
       rwa [← Int.natCast_mul] at this
     have k5:CR 96 #[.string (itoaB ((t.1.num.natAbs*S*(t.1.num.natAbs*S):Nat):Int)),.string (itoaB (t.2:Int))] (.string (itoaB ((t.1.num.natAbs*S*(t.1.num.natAbs*S)*t.2:Nat):Int))):=fun w R=>by
       have:=mul_any ((t.1.num.natAbs*S*(t.1.num.natAbs*S):Nat):Int) (t.2:Int) w R.env (by omega) (by omega)
       rwa [← Int.natCast_mul] at this
     have k6:CR 157 #[.string (itoaB ((t.1.num.natAbs*S*(t.1.num.natAbs*S)*t.2:Nat):Int))] (.tuple #[.string (itoaB (rootN (t.1.num.natAbs*S*(t.1.num.natAbs*S)*t.2):Int)),.int .i64 0]):=fun w R=>root_any _ w R.env (by omega)
     have k7:CR 119 #[.string (itoaB (rootN (t.1.num.natAbs*S*(t.1.num.natAbs*S)*t.2):Int)),.string (itoaB t.1.den)] (.tuple #[.string (itoaB ((rootN (t.1.num.natAbs*S*(t.1.num.natAbs*S)*t.2):Int) / t.1.den)),.string (itoaB ((rootN (t.1.num.natAbs*S*(t.1.num.natAbs*S)*t.2):Int) % t.1.den)),.int .i64 0]):=fun w R=>divMod_any _ _ w R.env (by omega) (Nat.le_trans hr1.2 (by decide)) (by omega)
     have k8:CR 92 #[.string (itoaB t.1.num)] (.int .i64 t.1.num.sign):=fun w _=>sign_any _ w
     have hql:=dlen_quo _ (t.1.den:Int) 22000 (by decide) (Int.natCast_nonneg (rootN (t.1.num.natAbs*S*(t.1.num.natAbs*S)*t.2))) (by omega) hsz
     obtain ⟨q,hq⟩:∃ q:Int,(rootN (t.1.num.natAbs*S*(t.1.num.natAbs*S)*t.2):Int) / t.1.den=q:=⟨_,rfl⟩
     have k9:CR 158 #[.string ⟨#[45,49]⟩,.string (itoaB q)] (.string (itoaB (-1 - q))):=fun w R=>by
       have:=sub_any (-1) q w R.env (by decide +kernel) (by rw [← hq];omega)
       rwa [HI1.out] at this
     have k10:CR 75 #[.string (itoaB (lowT S (ts.take k))),.string (itoaB (sizeT S t))] (.string (itoaB (lowT S (ts.take (k+1))))):=fun w R=>by
       have:=add_any (lowT S (ts.take k)) (sizeT S t) w R.env (by omega) (by omega)
       rwa [← hsn] at this
     have hst:sizeT S t=if t.1.num < 0 then -1 - q else q:=by unfold sizeT;simp only;rw [hq]
     rw [hq] at k7
     rw [hst] at k10
     rw [HSB.out] at k3
     generalize itoaB ((rootN (t.1.num.natAbs*S*(t.1.num.natAbs*S)*t.2):Int) % t.1.den)=r0 at k7
     generalize itoaB (rootN (t.1.num.natAbs*S*(t.1.num.natAbs*S)*t.2):Int)=r1 at k6 k7
     generalize itoaB ((t.1.num.natAbs*S*(t.1.num.natAbs*S)*t.2:Nat):Int)=r2 at k5 k6
     generalize itoaB ((t.1.num.natAbs*S*(t.1.num.natAbs*S):Nat):Int)=r3 at k4 k5
     generalize itoaB ((t.1.num.natAbs*S:Nat):Int)=r4 at k3 k4
     generalize itoaB (t.1.num.natAbs:Int)=r5 at k2 k3
     generalize itoaB (t.1.den:Int)=r6 at k1 k7
     generalize itoaB t.1.num=nb at k1 k2 k8
     generalize itoaB (t.2:Int)=rb at k5 x1 c1
     generalize ratB t.1=s at k1 x0 c0
     obtain ⟨lo,hlo⟩:∃ v,itoaB (lowT S (ts.take k))=v:=⟨_,rfl⟩
     obtain ⟨lo2,hlo2⟩:∃ v,itoaB (lowT S (ts.take (k+1)))=v:=⟨_,rfl⟩
     rw [hlo,hlo2] at k10
     rw [hlo]
     have HLO2:=Lib.hid hlo2
     obtain ⟨qb,hqb⟩:∃ v,itoaB q=v:=⟨_,rfl⟩
     obtain ⟨mb,hmb⟩:∃ v,itoaB (-1 - q)=v:=⟨_,rfl⟩
     rw [hqb] at k7 k9
     rw [hmb] at k9
     have K1:=Lib.hid k1
     have K2:=Lib.hid k2
     have K3:=Lib.hid k3
     have K4:=Lib.hid k4
     have K5:=Lib.hid k5
     have K6:=Lib.hid k6
     have K7:=Lib.hid k7
     have g1:(k:Int) < (n:Int):=by omega
     have g2:(0:Int)≤(k:Int):=by omega
     clear k1 k2 k3 k4 k5 k6 k7 c0 c1 hl hsz hstl hd hsn na e1 e2 e3 hql hst hlo hlo2 ht hr1 hr2
     go_upto_region 5 with fail
     refine wp_alloc1 (fun wa h0 hba=>?_)
     replace hb:=hb.trans (hba.mono hb.size)
     clear x0 x1 hba
     obtain ⟨B,hB⟩:∃ B,wr.heap.size=B:=⟨_,rfl⟩
     rw [hB] at h0
     have x0:=blk_cell h0 0 rfl
     go_upto_region 7 with (first | (go_at_call 91;(with_reducible refine (zK hb (K1.out _ (R.below hb))).mono ?_);clear hb;rintro e w1 ⟨rfl,hk,hb⟩;replace h0:=blk_below hk h0;clear hk) | (go_at_call 156;(with_reducible refine (zK hb (K2.out _ (R.below hb))).mono ?_);clear hb;rintro e w1 ⟨rfl,hk,hb⟩;replace h0:=blk_below hk h0;clear hk) | (go_at_call 96;(with_reducible refine (zK hb (K3.out _ (R.below hb))).mono ?_);clear hb;rintro e w1 ⟨rfl,hk,hb⟩;replace h0:=blk_below hk h0;clear hk))
     clear x0
     have x1:=blk_cell h0 1 rfl
     have yx1:=zR x1
     have Aa:=Lib.hid (fun d os=>Calls.regrown_of (K4.out (Sort.grow (redrawn w1 d) os) (R.below (hb.trans ((below_regrown w1 d os).mono hb.size)))))
     have Ab:=Lib.hid (fun d os=>Calls.regrown_of (K5.out (Sort.grow (redrawn w1 d) os) (R.below (hb.trans ((below_regrown w1 d os).mono hb.size)))))
     have Ac:=Lib.hid (fun d os=>Calls.regrown_of (K6.out (Sort.grow (redrawn w1 d) os) (R.below (hb.trans ((below_regrown w1 d os).mono hb.size)))))
     refine wp_region_quiet_below (by first | assumption | kernel_rfl) (by kernel_rfl) ?_
     repeat (quiet_step (first | (with_reducible exact Aa.out _ _) | (with_reducible exact Ab.out _ _) | (with_reducible exact Ac.out _ _)))
     refine wpQuiet_nil ?_
     intro _ hw'
     obtain ⟨⟨dq,osq⟩,hw''⟩:=hw'
     subst hw''
     replace hb:=hb.trans ((below_regrown w1 dq osq).mono hb.size)
     clear Aa Ab Ac yx1 x1 h0
     obtain ⟨w2,hw2⟩:∃ w2,Sort.grow (redrawn w1 dq) osq=w2:=⟨_,rfl⟩
     rw [hw2] at hb ⊢
     clear hw2
     obtain ⟨z,hz⟩:∃ z,t.1.num.sign=z:=⟨_,rfl⟩
     rw [hz] at k8
     by_cases hneg:t.1.num < 0
     · have hz2:z < 0:=by rw [← hz,Int.sign_eq_neg_one_of_neg hneg];decide
       rw [if_pos hneg,hmb] at k10
       have K8:=Lib.hid k8
       have K9:=Lib.hid k9
       have K10:=Lib.hid k10
       clear k8 k9 k10 hz hneg hmb hqb hq
       go_wp2_with (first | (go_at_call 119;(with_reducible refine (chain hb (K7.out _ (R.below hb))).mono ?_);clear hb;rintro e w1 ⟨rfl,hb⟩) | (go_at_call 92;(with_reducible refine (chain hb (K8.out _ (R.below hb))).mono ?_);clear hb;rintro e w1 ⟨rfl,hb⟩) | (go_at_call 158;(with_reducible refine (chain hb (K9.out _ (R.below hb))).mono ?_);clear hb;rintro e w1 ⟨rfl,hb⟩) | (go_at_call 75;(with_reducible refine (chain hb (K10.out _ (R.below hb))).mono ?_);clear hb;rintro e w1 ⟨rfl,hb⟩))
       go_roundw
       case rel=>exact ⟨k+1,by omega,by go_num,by rw [HLO2.out],hb⟩
       case measure=>simp [intOf];omega
     · have hz2:¬ z < 0:=by
         rw [← hz]
         rcases Int.lt_trichotomy t.1.num 0 with h | h | h
         · exact absurd h hneg
         · rw [h];decide
         · rw [Int.sign_eq_one_of_pos h];decide
       rw [if_neg hneg,hqb] at k10
       have K8:=Lib.hid k8
       have K9:=Lib.hid k9
       have K10:=Lib.hid k10
       clear k8 k9 k10 hz hneg hmb hqb hq
       go_wp2_with (first | (go_at_call 119;(with_reducible refine (chain hb (K7.out _ (R.below hb))).mono ?_);clear hb;rintro e w1 ⟨rfl,hb⟩) | (go_at_call 92;(with_reducible refine (chain hb (K8.out _ (R.below hb))).mono ?_);clear hb;rintro e w1 ⟨rfl,hb⟩) | (go_at_call 158;(with_reducible refine (chain hb (K9.out _ (R.below hb))).mono ?_);clear hb;rintro e w1 ⟨rfl,hb⟩) | (go_at_call 75;(with_reducible refine (chain hb (K10.out _ (R.below hb))).mono ?_);clear hb;rintro e w1 ⟨rfl,hb⟩))
       go_roundw
       case rel=>exact ⟨k+1,by omega,by go_num,by rw [HLO2.out],hb⟩
       case measure=>simp [intOf];omega
   · have hkn:k=n:=by omega
     subst hkn
     have hts:ts.take k=ts:=List.take_of_length_le (by rw [← HN.out];omega)
     have hl:=HL.out k
     have k1:=fun (w:World) (R:EnvR w)=>of_any (k:Int) (by omega) (by omega) w R.env
     have k2:CR 75 #[.string (itoaB (lowT S ts)),.string (itoaB (k:Int))] (.string (itoaB (lowT S ts+k))):=fun w R=>by
       rw [hts] at hl
       exact add_any _ _ w R.env (by omega) (Nat.le_trans (dlen_int (k:Int) (by omega) (by omega)) (by decide))
     rw [hts]
     obtain ⟨hi,hhi⟩:∃ v,itoaB (lowT S ts+k)=v:=⟨_,rfl⟩
     obtain ⟨lo,hlo⟩:∃ v,itoaB (lowT S ts)=v:=⟨_,rfl⟩
     rw [hhi,hlo] at k2
     rw [hlo]
     have HHI:=Lib.hid hhi
     have HLO:=Lib.hid hlo
     generalize itoaB (k:Int)=kb at k1 k2
     have K1:=Lib.hid k1
     have K2:=Lib.hid k2
     clear k1 k2 hl hts hhi hlo
     go_wp2_with (first | (go_at_call 73;(with_reducible refine (chain hb (K1.out _ (R.below hb))).mono ?_);clear hb;rintro e w1 ⟨rfl,hb⟩) | (go_at_call 75;(with_reducible refine (chain hb (K2.out _ (R.below hb))).mono ?_);clear hb;rintro e w1 ⟨rfl,hb⟩))
     go_ret2
     exact ⟨retSS HLO.out.symm HHI.out.symm,hb⟩
theorem commonSign_any (p:Option Addr) (n c:Nat) (ts:List Tm) (z:Int) (hn:n=ts.length) (hm:n≤1000) (hf:∀ t ∈ ts,RL t.1 2000) (w:World) (R:EnvR w) (h:HasT w p ts) :
   Calls Tryz.prog 112 #[.slice p n c,.int .i64 z] w (Ret w (.bool (ts.all fun t=>t.1.num.sign == z))):=by
 have H:=Lib.hid h
 have HN:=Lib.hid hn
 have HF:=Lib.hid hf
 clear h hn hf
 go_enter Tryz.func112,Tryz.ntmps112
 go_wp2
 go_loopw [9] (fun i wr=>∃ k:Nat,k≤n∧i = .int .i64 k∧Hid ((ts.take k).all (fun t=>t.1.num.sign == z)=true)∧Below w.heap.size w wr) (fun i _=>n - (intOf i).toNat)
 case atStart=>exact ⟨0,Nat.zero_le _,rfl,Lib.hid rfl,Below.refl _ _⟩
 case round =>
   obtain ⟨k,hk,rfl,HA,hb⟩:=hrel
   by_cases hlt:k < n
   · obtain ⟨t,ht⟩:∃ t,ts[k]? = some t:=⟨_,List.getElem?_eq_getElem (by rw [← HN.out];exact hlt)⟩
     obtain ⟨b,rfl,c0,c1⟩:=H.out k t ht
     have x0:wr.cell? ⟨b,k*2,none⟩=some (.string (ratB t.1)):=zC hb c0
     have x1:wr.cell? ⟨b,k*2+1,none⟩=some (.string (itoaB (t.2:Int))):=zC hb c1
     have hr1:=HF.out t (List.mem_of_getElem? ht)
     have k1:=fun (w:World) (R:EnvR w)=>rsign_any t.1 (hr1.mono (by decide)) w R
     have HT:=Lib.hid ht
     generalize itoaB (t.2:Int)=rb at x1 c1
     generalize ratB t.1=s at k1 x0 c0
     have g1:(k:Int) < (n:Int):=by omega
     have g2:(0:Int)≤(k:Int):=by omega
     obtain ⟨y,hy⟩:∃ y,t.1.num.sign=y:=⟨_,rfl⟩
     rw [hy] at k1
     have K1:=Lib.hid k1
     clear k1 c0 c1 ht hr1
     by_cases hyz:y=z
     · have HA2:Hid ((ts.take (k+1)).all (fun t=>t.1.num.sign == z)=true):=Lib.hid (by
         rw [List.take_add_one,HT.out,List.all_append,HA.out,Option.toList_some,List.all_cons,List.all_nil,hy,hyz];simp)
       have e1:(y == z)=true:=by simpa using hyz
       have e2:(y != z)=false:=by rw [bne,e1];rfl
       clear hyz hy
       go_upto_region 4 with fail
       refine wp_alloc1 (fun wa h0 hba=>?_)
       replace hb:=hb.trans (hba.mono hb.size)
       obtain ⟨B,hB⟩:∃ B,wr.heap.size=B:=⟨_,rfl⟩
       rw [hB] at h0
       clear x0 x1 hba
       have x0:=blk_cell h0 0 rfl
       go_wp2_with (go_at_call 46;(with_reducible refine (chain hb (K1.out _ (R.below hb))).mono ?_);clear hb;rintro e w1 ⟨rfl,hb⟩)
       go_roundw
       case rel=>exact ⟨k+1,by omega,by go_num,HA2,hb⟩
       case measure=>simp [intOf];omega
     · have HX:Hid ((ts.all fun t=>t.1.num.sign == z)=false):=Lib.hid (by
         rw [List.all_eq_false]
         exact ⟨t,List.mem_of_getElem? HT.out,by rw [hy];simpa using hyz⟩)
       have e1:(y == z)=false:=by simpa using hyz
       have e2:(y != z)=true:=by rw [bne,e1];rfl
       clear hyz hy
       go_upto_region 4 with fail
       refine wp_alloc1 (fun wa h0 hba=>?_)
       replace hb:=hb.trans (hba.mono hb.size)
       obtain ⟨B,hB⟩:∃ B,wr.heap.size=B:=⟨_,rfl⟩
       rw [hB] at h0
       clear x0 x1 hba
       have x0:=blk_cell h0 0 rfl
       go_wp2_with (go_at_call 46;(with_reducible refine (chain hb (K1.out _ (R.below hb))).mono ?_);clear hb;rintro e w1 ⟨rfl,hb⟩)
       go_ret
       exact ⟨retB HX.out.symm,hb⟩
   · have hkn:k=n:=by omega
     subst hkn
     have HX:Hid ((ts.all fun t=>t.1.num.sign == z)=true):=Lib.hid (by
       have:=HA.out
       rwa [List.take_of_length_le (by rw [← HN.out];omega)] at this)
     go_wp2
     go_ret
     exact ⟨retB HX.out.symm,hb⟩
def digT (j:Nat):Nat:=12*2 ^ j
def lowD (ts:List Tm) (j:Nat):Int:=lowT (10 ^ digT j) ts
theorem digT_succ (j:Nat):digT (j+1)=digT j*2:=by unfold digT;rw [Nat.pow_succ];omega
theorem digT_le {i j:Nat} (h:i≤j):digT i≤digT j:=Nat.mul_le_mul_left 12 (Nat.pow_le_pow_right (by decide) h)
theorem pow_dlen (n:Nat):dlen ((10 ^ n:Nat):Int)≤n+1:=dlen_le _ _ (by omega) (by rw [Int.natAbs_natCast];exact Nat.pow_lt_pow_of_lt (by decide) (by omega))
theorem signs (x:Int):(0≤x.sign↔0≤x)∧(x.sign≤0↔x≤0):=by
 rcases Int.lt_trichotomy x 0 with h | h | h
 · rw [Int.sign_eq_neg_one_of_neg h];omega
 · rw [h];decide
 · rw [Int.sign_eq_one_of_pos h];omega
theorem signLoop (p:Option Addr) (n c:Nat) (ts:List Tm) (z y:Int) (hn:n=ts.length) (h0:0 < n) (hm:n≤1000) (hf:∀ t ∈ ts,RL t.1 2000∧dlen (t.2:Int)≤2000) (N:Nat) (hN:digT N≤7000) (hund:∀ j,j < N→lowD ts j < 0∧0 < lowD ts j+n) (hdec:(z=1∧0≤lowD ts N)∨(z = -1∧lowD ts N < 0∧lowD ts N+n≤0))
   (w:World) (R:EnvR w) (h:HasT w p ts) (hy:∀ t,ts[0]? = some t→t.1.num.sign=y) (hc:(ts.all fun t=>t.1.num.sign == y)=false) :
   Calls Tryz.prog 64 #[.slice p n c] w (Ret w (.int .i64 z)):=by
 obtain ⟨t,ht⟩:∃ t,ts[0]? = some t:=⟨_,List.getElem?_eq_getElem (by omega)⟩
 obtain ⟨b,rfl,c0,_⟩:=h 0 t ht
 have k1:CR 46 #[.string (ratB t.1)] (.int .i64 y):=fun w R=>by
   have:=rsign_any t.1 ((hf t (List.mem_of_getElem? ht)).1.mono (by decide)) w R
   rwa [hy t ht] at this
 have k2:∀ w',Below w.heap.size w w'→Calls Tryz.prog 112 #[.slice (some ⟨b,0,none⟩) n c,.int .i64 y] w' fun e w'' => e = .returned (.bool false)∧Below w'.heap.size w' w'':=fun w' hb=>by
   have:=commonSign_any _ n c ts y hn hm (fun t ht=>(hf t ht).1) w' (R.below hb) (h.below hb)
   rwa [hc] at this
 have k3:∀ j,j≤N→∀ w',Below w.heap.size w w'→Calls Tryz.prog 113 #[.slice (some ⟨b,0,none⟩) n c,.string (itoaB ((10 ^ digT j:Nat):Int))] w' fun e w'' => e = .returned (.tuple #[.string (itoaB (lowD ts j)),.string (itoaB (lowD ts j+n))])∧Below w'.heap.size w' w'':=fun j hj w' hb=>by
   have h1:=pow_dlen (digT j)
   have h2:=digT_le hj
   exact enclose_any _ n c ts (10 ^ digT j) hn hm (by omega) hf w' (R.below hb) (h.below hb)
 have C0:=c0
 generalize ratB t.1=s at k1 c0
 have K1:=Lib.hid k1
 have K2:=Lib.hid k2
 have K3:=Lib.hid k3
 have HU:=Lib.hid hund
 have HD:=Lib.hid hdec
 have e0:((n:Int) == 0)=false:=by simp only [beq_eq_false_iff_ne,ne_eq];omega
 have g1:(0:Int) < (n:Int):=by omega
 have hb:=Below.refl w.heap.size w
 clear k1 k2 k3 hund hdec hn hf hy hc h ht C0
 go_enter Tryz.func64,Tryz.ntmps64
 go_wp2_with (first | (go_at_call 46;(with_reducible refine (chain hb (K1.out _ (R.below hb))).mono ?_);clear hb;rintro e w1 ⟨rfl,hb⟩) | (go_at_call 112;(with_reducible refine (chain hb (K2.out _ hb)).mono ?_);clear hb;rintro e w1 ⟨rfl,hb⟩))
 go_loopw [4] (fun v wr=>∃ j:Nat,j≤N∧v = .int .i64 (digT j:Int)∧Below w.heap.size w wr) (fun v _=>digT N+1 - (intOf v).toNat)
 case atStart=>exact ⟨0,Nat.zero_le _,rfl,hb⟩
 case round =>
   clear hb
   obtain ⟨j,hj,rfl,hb⟩:=hrel
   have hdj:=digT_le hj
   have k1:∀ w',Calls Tryz.prog 114 #[.int .i64 (digT j:Int)] w' fun e w'' => e = .returned (.string (itoaB ((10 ^ digT j:Nat):Int)))∧Below w'.heap.size w' w'':=fun w' => power_any _ (by omega) w'
   have k2:=K3.out j hj
   have s1:∀ w',Calls Tryz.prog 92 #[.string (itoaB (lowD ts j))] w' fun e w'' => e = .returned (.int .i64 (lowD ts j).sign)∧Below w'.heap.size w' w'':=fun w' => sign_any _ w'
   have s2:∀ w',Calls Tryz.prog 92 #[.string (itoaB (lowD ts j+n))] w' fun e w'' => e = .returned (.int .i64 (lowD ts j+n).sign)∧Below w'.heap.size w' w'':=fun w' => sign_any _ w'
   generalize itoaB ((10 ^ digT j:Nat):Int)=pb at k1 k2
   have hlo:=signs (lowD ts j)
   have hhi:=signs (lowD ts j+n)
   by_cases hjN:j < N
   · have hu:=HU.out j hjN
     have dn:=digT_succ j
     have d2:digT (j+1)≤digT N:=digT_le hjN
     have wd:IntKind.i64.wrap ((digT j:Int)*2)=(digT (j+1):Int):=by rw [dn,Int.natCast_mul];exact IntWalk.i64_in _ (by omega)
     have dpos:0 < digT j:=by unfold digT;have:=Nat.pow_pos (n:=j) (show 0 < 2 by decide);omega
     have d3:digT j < digT (j+1):=by omega
     generalize (lowD ts j).sign=a at s1 hlo
     generalize (lowD ts j+n).sign=d at s2 hhi
     have ha:¬ 0≤a:=fun e=>by have:=hlo.1.1 e;omega
     have hd:¬ d≤0:=fun e=>by have:=hhi.2.1 e;omega
     generalize itoaB (lowD ts j+n)=hib at k2 s2
     generalize itoaB (lowD ts j)=lob at k2 s1
     have S1:=Lib.hid s1
     have S2:=Lib.hid s2
     have P1:=Lib.hid k1
     have P2:=Lib.hid k2
     clear s1 s2 k1 k2 hlo hhi hu dn
     go_wp2_with (first | (go_at_call 114;(with_reducible refine (chain hb (P1.out _)).mono ?_);clear hb;rintro e w1 ⟨rfl,hb⟩) | (go_at_call 113;(with_reducible refine (chain hb (P2.out _ hb)).mono ?_);clear hb;rintro e w1 ⟨rfl,hb⟩) | (go_at_call 92;first | ((with_reducible refine (chain hb (S1.out _)).mono ?_);clear hb;rintro e w1 ⟨rfl,hb⟩) | ((with_reducible refine (chain hb (S2.out _)).mono ?_);clear hb;rintro e w1 ⟨rfl,hb⟩)))
     go_roundw
     case rel=>exact ⟨j+1,hjN,by go_num,hb⟩
     case measure=>simp [intOf];omega
   · have ejN:j=N:=by omega
     subst ejN
     rcases HD.out with ⟨hz,h1⟩ | ⟨hz,h1,h2⟩
     · have ha:0≤(lowD ts j).sign:=hlo.1.2 h1
       generalize (lowD ts j).sign=a at s1 hlo ha
       generalize itoaB (lowD ts j+n)=hib at k2 s2
       generalize itoaB (lowD ts j)=lob at k2 s1
       have S1:=Lib.hid s1
       have S2:=Lib.hid s2
       have P1:=Lib.hid k1
       have P2:=Lib.hid k2
       have HZ:=Lib.hid hz
       clear s1 s2 k1 k2 hlo hhi h1 hz
       go_wp2_with (first | (go_at_call 114;(with_reducible refine (chain hb (P1.out _)).mono ?_);clear hb;rintro e w1 ⟨rfl,hb⟩) | (go_at_call 113;(with_reducible refine (chain hb (P2.out _ hb)).mono ?_);clear hb;rintro e w1 ⟨rfl,hb⟩) | (go_at_call 92;first | ((with_reducible refine (chain hb (S1.out _)).mono ?_);clear hb;rintro e w1 ⟨rfl,hb⟩) | ((with_reducible refine (chain hb (S2.out _)).mono ?_);clear hb;rintro e w1 ⟨rfl,hb⟩)))
       go_ret
       exact ⟨retI HZ.out.symm,hb⟩
     · have ha:¬ 0≤(lowD ts j).sign:=fun e=>by have:=hlo.1.1 e;omega
       have hd:(lowD ts j+n).sign≤0:=hhi.2.2 h2
       generalize (lowD ts j).sign=a at s1 hlo ha
       generalize (lowD ts j+n).sign=d at s2 hhi hd
       generalize itoaB (lowD ts j+n)=hib at k2 s2
       generalize itoaB (lowD ts j)=lob at k2 s1
       have S1:=Lib.hid s1
       have S2:=Lib.hid s2
       have P1:=Lib.hid k1
       have P2:=Lib.hid k2
       have HZ:=Lib.hid hz
       clear s1 s2 k1 k2 hlo hhi h1 h2 hz
       go_wp2_with (first | (go_at_call 114;(with_reducible refine (chain hb (P1.out _)).mono ?_);clear hb;rintro e w1 ⟨rfl,hb⟩) | (go_at_call 113;(with_reducible refine (chain hb (P2.out _ hb)).mono ?_);clear hb;rintro e w1 ⟨rfl,hb⟩) | (go_at_call 92;first | ((with_reducible refine (chain hb (S1.out _)).mono ?_);clear hb;rintro e w1 ⟨rfl,hb⟩) | ((with_reducible refine (chain hb (S2.out _)).mono ?_);clear hb;rintro e w1 ⟨rfl,hb⟩)))
       go_ret
       exact ⟨retI HZ.out.symm,hb⟩
def cellsM (t:Tm):List Value:=[.string (ratB t.1),.string (itoaB (t.2:Int)),.int .u64 (pmK t.2 14:Nat),.int .u64 (smK t.2 14:Nat)]
def cellsMs (ts:List Tm):List Value:=ts.flatMap cellsM
theorem cellsMs_len : ∀ ts:List Tm,(cellsMs ts).length=ts.length*4
 | [] => rfl
 | t :: r=>by
   show (cellsM t ++ cellsMs r).length=_
   rw [List.length_append,cellsMs_len r,List.length_cons]
   show 4+r.length*4=_
   omega
theorem cellsMs_at : ∀ (ts:List Tm) (i:Nat) (t:Tm) (j:Nat) (v:Value),ts[i]? = some t→(cellsM t)[j]? = some v→(cellsMs ts)[i*4+j]? = some v
 | [],i,t,j,v,h,_=>by simp at h
 | u :: r,0,t,j,v,h,hv=>by
   injection h with h
   subst h
   show (cellsM u ++ cellsMs r)[0*4+j]? = _
   rw [Nat.zero_mul,Nat.zero_add,List.getElem?_append_left]
   · exact hv
   · rcases Nat.lt_or_ge j (cellsM u).length with h1 | h1
     · exact h1
     · rw [List.getElem?_eq_none h1] at hv;cases hv
 | u :: r,i+1,t,j,v,h,hv=>by
   have:=cellsMs_at r i t j v (by simpa using h) hv
   show (cellsM u ++ cellsMs r)[(i+1)*4+j]? = _
   rw [show (i+1)*4+j=i*4+j+4 by omega,List.getElem?_append_right (by show 4≤_;omega)]
   exact this
theorem cellsMs_snoc (ts:List Tm) (t:Tm):cellsMs (ts ++ [t])=cellsMs ts ++ cellsM t:=by
 unfold cellsMs;rw [List.flatMap_append];simp
def HasM (w:World) (p:Option Addr) (ts:List Tm):Prop:=∀ (i:Nat) (t:Tm),ts[i]? = some t→∃ b,p=some ⟨b,0,none⟩∧w.cell? ⟨b,i*4,none⟩=some (.string (ratB t.1))∧w.cell? ⟨b,i*4+1,none⟩=some (.string (itoaB (t.2:Int)))∧w.cell? ⟨b,i*4+2,none⟩=some (.int .u64 (pmK t.2 14:Nat))∧w.cell? ⟨b,i*4+3,none⟩=some (.int .u64 (smK t.2 14:Nat))
theorem HasM.below {w w':World} {p:Option Addr} {ts:List Tm} (h:HasM w p ts) (hb:Below w.heap.size w w'):HasM w' p ts:=fun i t ht=>by
 obtain ⟨b,h0,h1,h2,h3,h4⟩:=h i t ht
 exact ⟨b,h0,zC hb h1,zC hb h2,zC hb h3,zC hb h4⟩
theorem own_hasM {w:World} {base:Nat} {T:TypeId} {v:Value} {n:Nat} {ts:List Tm} (h:w.ownsRow base T 4 v n (cellsMs ts)) :
   n=ts.length∧∃ p c,v = .slice p n c∧n≤c∧c≤maxLen∧HasM w p ts:=by
 have hl:=h.1
 rw [cellsMs_len] at hl
 have hn:n=ts.length:=by omega
 refine ⟨hn,?_⟩
 have hc:=h
 rcases h.2 with ⟨rfl,h0⟩ | ⟨g,cap,cur,rfl,_,_,h1,h2,_⟩
 · have:ts=[]:=List.length_eq_zero_iff.1 (by omega)
   subst this
   exact ⟨none,0,by rw [h0],by omega,by unfold maxLen;omega,fun i t h=>by simp at h⟩
 · refine ⟨some ⟨g,0,none⟩,cap,rfl,h1,h2,fun i t ht=>⟨g,rfl,?_,?_,?_,?_⟩⟩
   · have:=hc.cells (g:=g) rfl (i*4) _ (cellsMs_at ts i t 0 _ ht rfl)
     rwa [Addr.add_lit,Nat.zero_add] at this
   · have:=hc.cells (g:=g) rfl (i*4+1) _ (cellsMs_at ts i t 1 _ ht rfl)
     rwa [Addr.add_lit,Nat.zero_add] at this
   · have:=hc.cells (g:=g) rfl (i*4+2) _ (cellsMs_at ts i t 2 _ ht rfl)
     rwa [Addr.add_lit,Nat.zero_add] at this
   · have:=hc.cells (g:=g) rfl (i*4+3) _ (cellsMs_at ts i t 3 _ ht rfl)
     rwa [Addr.add_lit,Nat.zero_add] at this
theorem idxAlike_none (p:Option Addr) (n c:Nat) (ts:List Tm) (u:Tm) (hn:n=ts.length) (hm:n≤1000) (hf:∀ t ∈ ts,dlen (t.2:Int)≤4000) (hu:dlen (u.2:Int)≤4000) (hx:∀ t ∈ ts,sqN (u.2*t.2)=false) (w:World) (R:EnvR w) (h:HasM w p ts) :
   Calls Tryz.prog 143 #[.slice p n c,.func (.func 108) #[.agg (cellsM u).toArray] #[]] w (Ret w (.int .i64 (-1))):=by
 have H:=Lib.hid h
 have HN:=Lib.hid hn
 have kk:∀ t ∈ ts,CR 108 #[.agg (cellsM u).toArray,.agg #[.string (ratB t.1),.string (itoaB (t.2:Int)),.int .u64 (pmK t.2 14:Nat),.int .u64 (smK t.2 14:Nat)]] (.bool false):=fun t ht w R=>by
   have:=isAlike_any (ratB u.1) (ratB t.1) u.2 t.2 hu (hf t ht) w R
   rwa [hx t ht] at this
 have KK:=Lib.hid kk
 clear h hn hf hu hx kk
 obtain ⟨um,hum⟩:∃ v,Value.agg (cellsM u).toArray=v:=⟨_,rfl⟩
 rw [hum] at KK ⊢
 clear hum
 go_enter Tryz.func143,Tryz.ntmps143
 go_wp2
 go_loopw [8] (fun i wr=>∃ k:Nat,k≤n∧i = .int .i64 k∧Below w.heap.size w wr) (fun i _=>n - (intOf i).toNat)
 case atStart=>exact ⟨0,Nat.zero_le _,rfl,Below.refl _ _⟩
 case round =>
   obtain ⟨k,hk,rfl,hb⟩:=hrel
   by_cases hlt:k < n
   · obtain ⟨t,ht⟩:∃ t,ts[k]? = some t:=⟨_,List.getElem?_eq_getElem (by rw [← HN.out];exact hlt)⟩
     obtain ⟨b,rfl,c0,c1,c2,c3⟩:=H.out k t ht
     have x0:=zC hb c0
     have x1:=zC hb c1
     have x2:=zC hb c2
     have x3:=zC hb c3
     have k1:=KK.out t (List.mem_of_getElem? ht)
     generalize itoaB (t.2:Int)=rb at k1 x1 c1
     generalize ratB t.1=s at k1 x0 c0
     generalize pmK t.2 14=P at k1 x2 c2
     generalize smK t.2 14=Q at k1 x3 c3
     have g1:(k:Int) < (n:Int):=by omega
     have g2:(0:Int)≤(k:Int):=by omega
     have K1:=Lib.hid k1
     clear k1 c0 c1 c2 c3 ht
     go_wp2_with (go_at_call 108;(with_reducible refine (chain hb (K1.out _ (R.below hb))).mono ?_);clear hb;rintro e w1 ⟨rfl,hb⟩)
     go_roundw
     case rel=>exact ⟨k+1,by omega,by go_num,hb⟩
     case measure=>simp [intOf];omega
   · go_wp2
     go_ret
     exact ⟨rfl,hb⟩
theorem hasAlike_none (p:Option Addr) (n c:Nat) (ts:List Tm) (u:Tm) (hn:n=ts.length) (hm:n≤1000) (hf:∀ t ∈ ts,dlen (t.2:Int)≤4000) (hu:dlen (u.2:Int)≤4000) (hx:∀ t ∈ ts,sqN (u.2*t.2)=false) (w:World) (R:EnvR w) (h:HasM w p ts) :
   Calls Tryz.prog 107 #[.slice p n c,.func (.func 108) #[.agg (cellsM u).toArray] #[]] w (Ret w (.bool false)):=by
 have K1:=Lib.hid (fun w' (hb:Below w.heap.size w w')=>idxAlike_none p n c ts u hn hm hf hu hx w' (R.below hb) (h.below hb))
 clear h hn hm hf hu hx
 have hb:=Below.refl w.heap.size w
 obtain ⟨um,hum⟩:∃ v,Value.agg (cellsM u).toArray=v:=⟨_,rfl⟩
 rw [hum] at K1 ⊢
 clear hum
 go_enter Tryz.func107,Tryz.ntmps107
 go_wp2_with (go_at_call 143;(with_reducible refine (chain hb (K1.out _ (hb))).mono ?_);clear hb;rintro e w1 ⟨rfl,hb⟩)
 go_ret
 exact ⟨rfl,hb⟩
structure Good (ts:List Tm):Prop where
 len:ts.length≤40
 fit:∀ t ∈ ts,RL t.1 200∧dlen (t.2:Int)≤200∧t.1≠0∧0 < t.2∧(t.2=1∨sqN t.2=false)
 ord:∀ (i j:Nat) (t u:Tm),i < j→ts[i]? = some t→ts[j]? = some u→t.2 < u.2∧sqN (u.2*t.2)=false
theorem one_list : (⟨#[49]⟩:ByteArray).toList=[49]:=by rw [Lib.toList_data]
theorem infoMk : (Tryz.prog.info? 149).map (fun i=>(i.zero,i.size,i.bytes))=some (some (.agg #[.string ⟨#[]⟩,.string ⟨#[]⟩,.int .u64 0,.int .u64 0]),4,48):=by kernel_rfl
theorem newsM (w:World) (a b c d:Value) (T:TypeId):∀ (j:Nat) (u:Value),([a,b,c,d]:List Value)[j]? = some u→(w.alloc (Obj.cells #[a,b,c,d] T)).cell? ((⟨w.heap.size,0,none⟩:Addr).add j)=some u:=fun j u h=>by
 rw [Addr.add_lit,Nat.zero_add]
 match j,h with
 | 0,h=>exact blk_cell (World.alloc_heap_new w _) 0 h
 | 1,h=>exact blk_cell (World.alloc_heap_new w _) 1 h
 | 2,h=>exact blk_cell (World.alloc_heap_new w _) 2 h
 | 3,h=>exact blk_cell (World.alloc_heap_new w _) 3 h
 | j+4,h=>simp at h
theorem check_ok (p:Option Addr) (n c:Nat) (ts:List Tm) (hn:n=ts.length) (hg:Good ts) (w:World) (R:EnvS w) (h:HasT w p ts) :
   Calls Tryz.prog 61 #[.slice p n c] w (Ret w (.int .i64 0)):=by
 obtain ⟨i0,hi,hz0,hz1,hz2⟩:=info_parts infoMk
 have hm:n≤40:=by rw [hn];exact hg.len
 obtain ⟨wm,hmk,hown0,hgrow0⟩:=run_make_own (P:=Tryz.prog) w w.heap.size 140 149 i0 (.agg #[.string ⟨#[]⟩,.string ⟨#[]⟩,.int .u64 0,.int .u64 0]) 4 Tryz.underlying140 hi hz0 hz1 .i64 .i64 n (by rw [hz2];omega) (by unfold maxLen;omega) (Nat.le_refl _)
 have hb0:Below w.heap.size w wm:=(Below.refl _ w).grown hgrow0 (Nat.le_refl _) (fun j hj=>by cases hj)
 have H:=Lib.hid h
 have HN:=Lib.hid hn
 have HG:=Lib.hid hg
 have g40:¬ (40:Int) < (n:Int):=by omega
 clear h hn hg hgrow0
 go_enter Tryz.func61,Tryz.ntmps61
 go_wp2
 clear hmk
 go_loopw [3,16] (fun v i wr=>∃ k:Nat,k≤n∧i = .int .i64 k∧wr.ownsRow w.heap.size 149 4 v k (cellsMs (ts.take k))∧Below w.heap.size w wr) (fun _ i _=>n - (intOf i).toNat)
 case atStart=>exact ⟨0,Nat.zero_le _,rfl,hown0,hb0⟩
 case round =>
   clear hown0 hb0
   obtain ⟨k,hk,rfl,hown,hb⟩:=hrel
   by_cases hlt:k < n
   · obtain ⟨t,ht⟩:∃ t,ts[k]? = some t:=⟨_,List.getElem?_eq_getElem (by rw [← HN.out];exact hlt)⟩
     obtain ⟨b,rfl,c0,c1⟩:=H.out k t ht
     have x0:wr.cell? ⟨b,k*2,none⟩=some (.string (ratB t.1)):=zC hb c0
     have x1:wr.cell? ⟨b,k*2+1,none⟩=some (.string (itoaB (t.2:Int))):=zC hb c1
     obtain ⟨f1,f2,f3,f4,f5⟩:=HG.out.fit t (List.mem_of_getElem? ht)
     have k1:CR 104 #[.agg #[.string (ratB t.1),.string (itoaB (t.2:Int))]] (.int .i64 0):=by
       intro w R
       exact checkTerm_ok t f1 f2 f3 f4 w R
     have k2:∀ w,EnvS w→Calls Tryz.prog 105 #[.agg #[.string (ratB t.1),.string (itoaB (t.2:Int))]] w (Ret w (.agg #[.string (ratB t.1),.string (itoaB (t.2:Int)),.int .u64 (pmK t.2 14:Nat),.int .u64 (smK t.2 14:Nat)])):=fun w R=>mark_any _ t.2 (by omega) w R
     have k3:CR 106 #[.agg #[.string (ratB t.1),.string (itoaB (t.2:Int)),.int .u64 (pmK t.2 14:Nat),.int .u64 (smK t.2 14:Nat)]] (.bool (sqN t.2)):=fun w R=>isSquare_any _ t.2 (by omega) w R
     obtain ⟨hnk,q,d,rfl,hd1,hd2,hM⟩:=own_hasM hown
     have hsub:∀ u ∈ ts.take k,dlen (u.2:Int)≤4000∧sqN (t.2*u.2)=false:=fun u hu=>by
       obtain ⟨i,hi⟩:=List.getElem?_of_mem hu
       have hik:i < k:=by
         rcases Nat.lt_or_ge i k with h | h
         · exact h
         · rw [List.getElem?_eq_none (by rw [List.length_take];omega)] at hi;cases hi
       rw [List.getElem?_take,if_pos hik] at hi
       exact ⟨by have:=(HG.out.fit u (List.mem_of_getElem? hi)).2.1;omega,(HG.out.ord i k u t hik hi ht).2⟩
     have k4:∀ w',EnvR w'→HasM w' q (ts.take k)→Calls Tryz.prog 107 #[.slice q k d,.func (.func 108) #[.agg #[.string (ratB t.1),.string (itoaB (t.2:Int)),.int .u64 (pmK t.2 14:Nat),.int .u64 (smK t.2 14:Nat)]] #[]] w' fun e w'' => e = .returned (.bool false)∧Below w'.heap.size w' w'':=fun w' R hM=>hasAlike_none q k d (ts.take k) t (by rw [List.length_take];have:=HN.out;omega) (by omega) (fun u hu=>(hsub u hu).1) (by omega) (fun u hu=>(hsub u hu).2) w' R hM
     have hsn:cellsMs (ts.take (k+1))=cellsMs (ts.take k) ++ [.string (ratB t.1),.string (itoaB (t.2:Int)),.int .u64 (pmK t.2 14:Nat),.int .u64 (smK t.2 14:Nat)]:=by
       rw [List.take_add_one,ht];exact cellsMs_snoc _ _
     have hlo:sqN t.2=false∨itoaB (t.2:Int)=⟨#[49]⟩:=by
       rcases f5 with h | h
       · exact Or.inr (by rw [h];exact itoa_one)
       · exact Or.inl h
     have hcmp:∀ (j:Nat) (u:Tm),j < k→ts[j]? = some u→∀ w,Calls Tryz.prog 89 #[.string (itoaB (t.2:Int)),.string (itoaB (u.2:Int))] w (Ret w (.int .i64 1)):=fun j u hj hu w=>by
       have:=compare_any (t.2:Int) (u.2:Int) w
       rwa [Int.sign_eq_one_of_pos (by have:=(HG.out.ord j k u t hj hu ht).1;omega)] at this
     have HC:=Lib.hid hcmp
     have HSN:=Lib.hid hsn
     clear hsn hcmp hsub f1 f2 f3 f4 f5 ht hnk
     obtain ⟨s,hs⟩:∃ v,ratB t.1=v:=⟨_,rfl⟩
     obtain ⟨rb,hrb⟩:∃ v,itoaB (t.2:Int)=v:=⟨_,rfl⟩
     rw [hs] at k1 k2 k3 k4 x0
     rw [hrb] at k1 k2 k3 k4 x1 hlo
     generalize pmK t.2 14=P at k2 k3 k4 HSN
     generalize smK t.2 14=Q at k2 k3 k4 HSN
     have HS:=Lib.hid hs
     have HRB:=Lib.hid hrb
     have K1:=Lib.hid k1
     have K2:=Lib.hid k2
     have K3:=Lib.hid k3
     have K4:=Lib.hid k4
     have HM:=Lib.hid hM
     clear k1 k2 k3 k4 c0 c1 hs hrb hM
     have g1:(k:Int) < (n:Int):=by omega
     have g2:(0:Int)≤(k:Int):=by omega
     go_upto_region 7 with fail
     refine wp_alloc1 (fun wa h0 hba=>?_)
     have hsz:=hb.size
     replace hM:=HM.out.below hba
     replace hown:=own_below hown hba
     replace hb:=hb.trans (hba.mono hb.size)
     clear hba x0 x1 HM
     obtain ⟨B,hB⟩:∃ B,wr.heap.size=B:=⟨_,rfl⟩
     rw [hB] at h0
     have y0:=blk_cell h0 0 rfl
     have y1:=blk_cell h0 1 rfl
     go_upto_region 11 with (first | (go_at_call 104;(with_reducible refine (zK hb (K1.out _ (R.toEnvR.below hb))).mono ?_);clear hb;rintro e w1 ⟨rfl,hk,hb⟩;replace h0:=blk_below hk h0;replace hown:=own_below hown hk;replace hM:=hM.below hk;replace y0:=zC hk y0;replace y1:=zC hk y1;clear hk) | (go_at_call 105;(with_reducible refine (zK hb (K2.out _ (R.below hb))).mono ?_);clear hb;rintro e w1 ⟨rfl,hk,hb⟩;replace h0:=blk_below hk h0;replace hown:=own_below hown hk;replace hM:=hM.below hk;replace y0:=zC hk y0;replace y1:=zC hk y1;clear hk))
     have hsz1:=hb.size
     refine wp_alloc1 (fun wb h2 hba=>?_)
     replace h0:=blk_below hba h0
     replace hM:=hM.below hba
     replace hown:=own_below hown hba
     replace hb:=hb.trans (hba.mono hb.size)
     replace y0:=zC hba y0
     replace y1:=zC hba y1
     clear hba
     obtain ⟨B2,hB2⟩:∃ B,w1.heap.size=B:=⟨_,rfl⟩
     rw [hB2] at h2
     have z0:=blk_cell h2 0 rfl
     have z1:=blk_cell h2 1 rfl
     have z2:=blk_cell h2 2 rfl
     have z3:=blk_cell h2 3 rfl
     by_cases h49:rb=⟨#[49]⟩
     · have e1:(rb.toList == [49])=true:=by rw [h49,one_list];rfl
       have e2:(rb.toList != [49])=false:=by rw [bne,e1];rfl
       clear h49 hlo
       go_upto_region 13 with fail
       clear z0 z1 z2 z3 e1 e2
       rcases Nat.eq_zero_or_pos k with hk0 | hk0
       · subst hk0
         clear g2
         go_quiet (fail)
         obtain ⟨wq,hwq⟩:∃ wq,wb.drewN nq=wq:=⟨_,rfl⟩
         have hbq:Below wb.heap.size wb wq:=by rw [← hwq];exact below_drewN _ _
         replace h2:=blk_below hbq h2
         replace hown:=own_below hown hbq
         replace hM:=hM.below hbq
         replace hb:=hb.trans (hbq.mono hb.size)
         rw [hwq]
         clear hwq hbq y0 y1 h0
         have z0:=blk_cell h2 0 rfl
         have z1:=blk_cell h2 1 rfl
         have z2:=blk_cell h2 2 rfl
         have z3:=blk_cell h2 3 rfl
         go_upto_region 17 with (go_at_call 107;(with_reducible refine (zK hb (K4.out _ (R.toEnvR.below hb) hM)).mono ?_);clear hb;rintro e w2 ⟨rfl,hk,hb⟩;replace h2:=blk_below hk h2;replace hown:=own_below hown hk;clear hk z0 z1 z2 z3)
         have z0:=blk_cell h2 0 rfl
         have z1:=blk_cell h2 1 rfl
         have z2:=blk_cell h2 2 rfl
         have z3:=blk_cell h2 3 rfl
         have hsz2:=hb.size
         go_wp2_with (at_builtin;(refine wpList_append_own _ rfl _ _ 140 rfl w.heap.size 149 i0 (.agg #[.string ⟨#[]⟩,.string ⟨#[]⟩,.int .u64 0,.int .u64 0]) 4 48 Tryz.underlying140 hi hz0 hz1 hz2 rfl (by decide) _ _ _ rfl (hown.alloc _) ⟨w2.heap.size,0,none⟩ 1 1 [.string s,.string rb,.int .u64 (P:Int),.int .u64 (Q:Int)] rfl rfl (newsM _ _ _ _ _ _) (by simp [Value.oneCell']) (by unfold maxLen;omega) (by omega) (by simp;omega) ?_;intro v3 w3 hown3 hgrow3 _))
         have hbw:=(hb.alloc hsz2 (Obj.cells #[Value.string s,Value.string rb,Value.int .u64 (P:Int),Value.int .u64 (Q:Int)] 149)).grown hgrow3 (by simp;omega) (fun j hj=>(hown.lt j hj).1)
         go_roundw
         case rel=>exact ⟨0+1,by omega,by go_num,by rw [HSN.out,HS.out,HRB.out];exact hown3,hbw⟩
         case measure=>simp [intOf];omega
       · obtain ⟨j,rfl⟩:∃ j,k=j+1:=⟨k - 1,by omega⟩
         obtain ⟨u,hu⟩:∃ u,ts[j]? = some u:=⟨_,List.getElem?_eq_getElem (by rw [← HN.out];omega)⟩
         obtain ⟨b',hb',_,c1⟩:=H.out j u hu
         injection hb' with hb'
         injection hb' with hb'
         subst hb'
         have x1:=zC hb c1
         have kc:=HC.out j u (by omega) hu
         rw [HRB.out] at kc
         generalize itoaB (u.2:Int)=ub at kc x1 c1
         have KC:=Lib.hid kc
         have yx1:=zR x1
         have yy1:=zR y1
         have g3:(0:Int) < ((j+1:Nat):Int):=by omega
         have g4:IntKind.i64.wrap (j:Int)=(j:Int):=IntWalk.i64_in _ (by omega)
         have g5:(0:Int)≤(j:Int):=by omega
         have g6:(j:Int) < (n:Int):=by omega
         clear kc c1 hu
         have RR:=Lib.hid (fun d os=>Calls.regrown_of (KC.out (Sort.grow (redrawn wb d) os)))
         refine wp_region_quiet_below (by first | assumption | kernel_rfl) (by kernel_rfl) ?_
         repeat (quiet_step (first | (with_reducible exact RR.out _ _)))
         refine wpQuiet_nil ?_
         intro _ hw'
         obtain ⟨⟨dq,osq⟩,hw''⟩:=hw'
         subst hw''
         have hbq:=below_regrown wb dq osq
         clear RR yx1 yy1 x1 y0 y1 h0
         obtain ⟨wq,hwq⟩:∃ wq,Sort.grow (redrawn wb dq) osq=wq:=⟨_,rfl⟩
         rw [hwq] at hbq ⊢
         replace h2:=blk_below hbq h2
         replace hown:=own_below hown hbq
         replace hM:=hM.below hbq
         replace hb:=hb.trans (hbq.mono hb.size)
         clear hwq hbq
         have z0:=blk_cell h2 0 rfl
         have z1:=blk_cell h2 1 rfl
         have z2:=blk_cell h2 2 rfl
         have z3:=blk_cell h2 3 rfl
         go_upto_region 17 with (go_at_call 107;(with_reducible refine (zK hb (K4.out _ (R.toEnvR.below hb) hM)).mono ?_);clear hb;rintro e w2 ⟨rfl,hk,hb⟩;replace h2:=blk_below hk h2;replace hown:=own_below hown hk;clear hk z0 z1 z2 z3)
         have z0:=blk_cell h2 0 rfl
         have z1:=blk_cell h2 1 rfl
         have z2:=blk_cell h2 2 rfl
         have z3:=blk_cell h2 3 rfl
         have hsz2:=hb.size
         go_wp2_with (at_builtin;(refine wpList_append_own _ rfl _ _ 140 rfl w.heap.size 149 i0 (.agg #[.string ⟨#[]⟩,.string ⟨#[]⟩,.int .u64 0,.int .u64 0]) 4 48 Tryz.underlying140 hi hz0 hz1 hz2 rfl (by decide) _ _ _ rfl (hown.alloc _) ⟨w2.heap.size,0,none⟩ 1 1 [.string s,.string rb,.int .u64 (P:Int),.int .u64 (Q:Int)] rfl rfl (newsM _ _ _ _ _ _) (by simp [Value.oneCell']) (by unfold maxLen;omega) (by omega) (by simp;omega) ?_;intro v3 w3 hown3 hgrow3 _))
         have hbw:=(hb.alloc hsz2 (Obj.cells #[Value.string s,Value.string rb,Value.int .u64 (P:Int),Value.int .u64 (Q:Int)] 149)).grown hgrow3 (by simp;omega) (fun j hj=>(hown.lt j hj).1)
         go_roundw
         case rel=>exact ⟨j+1+1,by omega,by go_num,by rw [HSN.out,HS.out,HRB.out];exact hown3,hbw⟩
         case measure=>simp [intOf];omega
     · have hsq:sqN t.2=false:=hlo.resolve_right h49
       have e1:(rb.toList == [49])=false:=by have:=text_ne h49;rwa [one_list] at this
       have e2:(rb.toList != [49])=true:=by rw [bne,e1];rfl
       have k3:=K3.out
       rw [hsq] at k3
       have K3':=Lib.hid k3
       clear h49 hlo k3 K3
       go_upto_region 13 with (go_at_call 106;(with_reducible refine (zK hb (K3'.out _ (R.toEnvR.below hb))).mono ?_);clear hb;rintro e wb ⟨rfl,hk,hb⟩;replace h0:=blk_below hk h0;replace h2:=blk_below hk h2;replace hown:=own_below hown hk;replace hM:=hM.below hk;replace y0:=zC hk y0;replace y1:=zC hk y1;clear hk z0 z1 z2 z3)
       clear e1 e2
       rcases Nat.eq_zero_or_pos k with hk0 | hk0
       · subst hk0
         clear g2
         go_quiet (fail)
         obtain ⟨wq,hwq⟩:∃ wq,wb.drewN nq=wq:=⟨_,rfl⟩
         have hbq:Below wb.heap.size wb wq:=by rw [← hwq];exact below_drewN _ _
         replace h2:=blk_below hbq h2
         replace hown:=own_below hown hbq
         replace hM:=hM.below hbq
         replace hb:=hb.trans (hbq.mono hb.size)
         rw [hwq]
         clear hwq hbq y0 y1 h0
         have z0:=blk_cell h2 0 rfl
         have z1:=blk_cell h2 1 rfl
         have z2:=blk_cell h2 2 rfl
         have z3:=blk_cell h2 3 rfl
         go_upto_region 17 with (go_at_call 107;(with_reducible refine (zK hb (K4.out _ (R.toEnvR.below hb) hM)).mono ?_);clear hb;rintro e w2 ⟨rfl,hk,hb⟩;replace h2:=blk_below hk h2;replace hown:=own_below hown hk;clear hk z0 z1 z2 z3)
         have z0:=blk_cell h2 0 rfl
         have z1:=blk_cell h2 1 rfl
         have z2:=blk_cell h2 2 rfl
         have z3:=blk_cell h2 3 rfl
         have hsz2:=hb.size
         go_wp2_with (at_builtin;(refine wpList_append_own _ rfl _ _ 140 rfl w.heap.size 149 i0 (.agg #[.string ⟨#[]⟩,.string ⟨#[]⟩,.int .u64 0,.int .u64 0]) 4 48 Tryz.underlying140 hi hz0 hz1 hz2 rfl (by decide) _ _ _ rfl (hown.alloc _) ⟨w2.heap.size,0,none⟩ 1 1 [.string s,.string rb,.int .u64 (P:Int),.int .u64 (Q:Int)] rfl rfl (newsM _ _ _ _ _ _) (by simp [Value.oneCell']) (by unfold maxLen;omega) (by omega) (by simp;omega) ?_;intro v3 w3 hown3 hgrow3 _))
         have hbw:=(hb.alloc hsz2 (Obj.cells #[Value.string s,Value.string rb,Value.int .u64 (P:Int),Value.int .u64 (Q:Int)] 149)).grown hgrow3 (by simp;omega) (fun j hj=>(hown.lt j hj).1)
         go_roundw
         case rel=>exact ⟨0+1,by omega,by go_num,by rw [HSN.out,HS.out,HRB.out];exact hown3,hbw⟩
         case measure=>simp [intOf];omega
       · obtain ⟨j,rfl⟩:∃ j,k=j+1:=⟨k - 1,by omega⟩
         obtain ⟨u,hu⟩:∃ u,ts[j]? = some u:=⟨_,List.getElem?_eq_getElem (by rw [← HN.out];omega)⟩
         obtain ⟨b',hb',_,c1⟩:=H.out j u hu
         injection hb' with hb'
         injection hb' with hb'
         subst hb'
         have x1:=zC hb c1
         have kc:=HC.out j u (by omega) hu
         rw [HRB.out] at kc
         generalize itoaB (u.2:Int)=ub at kc x1 c1
         have KC:=Lib.hid kc
         have yx1:=zR x1
         have yy1:=zR y1
         have g3:(0:Int) < ((j+1:Nat):Int):=by omega
         have g4:IntKind.i64.wrap (j:Int)=(j:Int):=IntWalk.i64_in _ (by omega)
         have g5:(0:Int)≤(j:Int):=by omega
         have g6:(j:Int) < (n:Int):=by omega
         clear kc c1 hu
         have RR:=Lib.hid (fun d os=>Calls.regrown_of (KC.out (Sort.grow (redrawn wb d) os)))
         refine wp_region_quiet_below (by first | assumption | kernel_rfl) (by kernel_rfl) ?_
         repeat (quiet_step (first | (with_reducible exact RR.out _ _)))
         refine wpQuiet_nil ?_
         intro _ hw'
         obtain ⟨⟨dq,osq⟩,hw''⟩:=hw'
         subst hw''
         have hbq:=below_regrown wb dq osq
         clear RR yx1 yy1 x1 y0 y1 h0
         obtain ⟨wq,hwq⟩:∃ wq,Sort.grow (redrawn wb dq) osq=wq:=⟨_,rfl⟩
         rw [hwq] at hbq ⊢
         replace h2:=blk_below hbq h2
         replace hown:=own_below hown hbq
         replace hM:=hM.below hbq
         replace hb:=hb.trans (hbq.mono hb.size)
         clear hwq hbq
         have z0:=blk_cell h2 0 rfl
         have z1:=blk_cell h2 1 rfl
         have z2:=blk_cell h2 2 rfl
         have z3:=blk_cell h2 3 rfl
         go_upto_region 17 with (go_at_call 107;(with_reducible refine (zK hb (K4.out _ (R.toEnvR.below hb) hM)).mono ?_);clear hb;rintro e w2 ⟨rfl,hk,hb⟩;replace h2:=blk_below hk h2;replace hown:=own_below hown hk;clear hk z0 z1 z2 z3)
         have z0:=blk_cell h2 0 rfl
         have z1:=blk_cell h2 1 rfl
         have z2:=blk_cell h2 2 rfl
         have z3:=blk_cell h2 3 rfl
         have hsz2:=hb.size
         go_wp2_with (at_builtin;(refine wpList_append_own _ rfl _ _ 140 rfl w.heap.size 149 i0 (.agg #[.string ⟨#[]⟩,.string ⟨#[]⟩,.int .u64 0,.int .u64 0]) 4 48 Tryz.underlying140 hi hz0 hz1 hz2 rfl (by decide) _ _ _ rfl (hown.alloc _) ⟨w2.heap.size,0,none⟩ 1 1 [.string s,.string rb,.int .u64 (P:Int),.int .u64 (Q:Int)] rfl rfl (newsM _ _ _ _ _ _) (by simp [Value.oneCell']) (by unfold maxLen;omega) (by omega) (by simp;omega) ?_;intro v3 w3 hown3 hgrow3 _))
         have hbw:=(hb.alloc hsz2 (Obj.cells #[Value.string s,Value.string rb,Value.int .u64 (P:Int),Value.int .u64 (Q:Int)] 149)).grown hgrow3 (by simp;omega) (fun j hj=>(hown.lt j hj).1)
         go_roundw
         case rel=>exact ⟨j+1+1,by omega,by go_num,by rw [HSN.out,HS.out,HRB.out];exact hown3,hbw⟩
         case measure=>simp [intOf];omega
   · go_wp2
     go_ret
     exact ⟨rfl,hb⟩
theorem surdSign_w (v:Value) (z:Int) (w:World) (h1:∀ w',Below w.heap.size w w'→Calls Tryz.prog 61 #[v] w' fun e w'' => e = .returned (.int .i64 0)∧Below w'.heap.size w' w'') (h2:∀ w',Below w.heap.size w w'→Calls Tryz.prog 64 #[v] w' fun e w'' => e = .returned (.int .i64 z)∧Below w'.heap.size w' w'') :
   Calls Tryz.prog 27 #[v] w (Ret w (.tuple #[.int .i64 z,.int .i64 0])):=by
 have K1:=Lib.hid h1
 have K2:=Lib.hid h2
 have hb:=Below.refl w.heap.size w
 clear h1 h2
 go_enter Tryz.func27,Tryz.ntmps27
 go_wp2_with (first | (go_at_call 61;(with_reducible refine (chain hb (K1.out _ (hb))).mono ?_);clear hb;rintro e w1 ⟨rfl,hb⟩) | (go_at_call 64;(with_reducible refine (chain hb (K2.out _ (hb))).mono ?_);clear hb;rintro e w1 ⟨rfl,hb⟩))
 go_ret2
 exact ⟨rfl,hb⟩
def isR (ts:List Tm):Bool:=match ts with | [] => true | [t] => decide (t.2=1) | _=>false
def ratS3 (ts:List Tm):ByteArray:=match ts with | [] => ⟨#[48]⟩ | [t] => if t.2=1 then ratB t.1 else ⟨#[]⟩ | _=>⟨#[]⟩
theorem itoa_is_one {r:Nat}:((itoaB (r:Int)).toList == [49])=decide (r=1):=by
 have:=text_dec (itoaB (r:Int)) ⟨#[49]⟩
 rw [one_list] at this
 rw [this]
 refine decide_eq_decide.2 ⟨fun h=>?_,fun h=>by rw [h];exact itoa_one⟩
 have:=itoa_inj (h.trans itoa_one.symm)
 omega
theorem rationalOf_none (p:Option Addr) (c:Nat) (w:World) :
   Calls Tryz.prog 72 #[.slice p 0 c] w (Ret w (.tuple #[.string ⟨#[48]⟩,.bool true])):=by
 have hb:=Below.refl w.heap.size w
 go_enter Tryz.func72,Tryz.ntmps72
 go_wp2
 go_ret2
 exact ⟨rfl,hb⟩
theorem rationalOf_yes (b c:Nat) (s rb:ByteArray) (w:World) (c0:w.cell? ⟨b,0,none⟩=some (.string s)) (c1:w.cell? ⟨b,1,none⟩=some (.string rb)) (e1:(rb.toList == [49])=true) :
   Calls Tryz.prog 72 #[.slice (some ⟨b,0,none⟩) 1 c] w (Ret w (.tuple #[.string s,.bool true])):=by
 have hb:=Below.refl w.heap.size w
 go_enter Tryz.func72,Tryz.ntmps72
 go_wp2
 go_ret2
 exact ⟨rfl,hb⟩
theorem rationalOf_root (b c:Nat) (s rb:ByteArray) (w:World) (_c0:w.cell? ⟨b,0,none⟩=some (.string s)) (c1:w.cell? ⟨b,1,none⟩=some (.string rb)) (e1:(rb.toList == [49])=false) :
   Calls Tryz.prog 72 #[.slice (some ⟨b,0,none⟩) 1 c] w (Ret w (.tuple #[.string ⟨#[]⟩,.bool false])):=by
 have hb:=Below.refl w.heap.size w
 go_enter Tryz.func72,Tryz.ntmps72
 go_wp2
 go_ret2
 exact ⟨rfl,hb⟩
theorem rationalOf_more (p:Option Addr) (n c:Nat) (hn:2≤n) (hm:n≤1000) (w:World) :
   Calls Tryz.prog 72 #[.slice p n c] w (Ret w (.tuple #[.string ⟨#[]⟩,.bool false])):=by
 have hb:=Below.refl w.heap.size w
 have e0:((n:Int) == 0)=false:=by simp only [beq_eq_false_iff_ne,ne_eq];omega
 have e1:((n:Int) == 1)=false:=by simp only [beq_eq_false_iff_ne,ne_eq];omega
 go_enter Tryz.func72,Tryz.ntmps72
 go_wp2
 go_ret2
 exact ⟨rfl,hb⟩
theorem rationalOf_any (p:Option Addr) (n c:Nat) (ts:List Tm) (hn:n=ts.length) (hm:n≤1000) (w:World) (h:HasT w p ts) :
   Calls Tryz.prog 72 #[.slice p n c] w (Ret w (.tuple #[.string (ratS3 ts),.bool (isR ts)])):=by
 match ts,hn,h with
 | [],hn,_=>obtain rfl:n=0:=hn;exact rationalOf_none p c w
 | [t],hn,h =>
   obtain rfl:n=1:=hn
   obtain ⟨b,rfl,c0,c1⟩:=h 0 t rfl
   have e1:=itoa_is_one (r:=t.2)
   by_cases h1:t.2=1
   · rw [show isR [t]=true from decide_eq_true h1,show ratS3 [t]=ratB t.1 from if_pos h1]
     exact rationalOf_yes b c _ _ w c0 c1 (e1.trans (decide_eq_true h1))
   · rw [show isR [t]=false from decide_eq_false h1,show ratS3 [t]=⟨#[]⟩ from if_neg h1]
     exact rationalOf_root b c _ _ w c0 c1 (e1.trans (decide_eq_false h1))
 | t :: u :: r,hn,_=>exact rationalOf_more p n c (by rw [hn,List.length_cons,List.length_cons];omega) hm w
theorem retSBq {a b:ByteArray} {x:Bool} (h:a=b):Ending.returned (.tuple #[.string a,.bool x]) = .returned (.tuple #[.string b,.bool x]):=by rw [h]
theorem surdRational_w (v:Value) (x:ByteArray) (is:Bool) (w:World) (h1:∀ w',Below w.heap.size w w'→Calls Tryz.prog 61 #[v] w' fun e w'' => e = .returned (.int .i64 0)∧Below w'.heap.size w' w'') (h2:∀ w',Below w.heap.size w w'→Calls Tryz.prog 72 #[v] w' fun e w'' => e = .returned (.tuple #[.string x,.bool is])∧Below w'.heap.size w' w'') :
   Calls Tryz.prog 33 #[v] w (Ret w (.tuple #[.string x,.bool is,.int .i64 0])):=by
 have K1:=Lib.hid h1
 have K2:=Lib.hid h2
 have hb:=Below.refl w.heap.size w
 clear h1 h2
 go_enter Tryz.func33,Tryz.ntmps33
 go_wp2_with (first | (go_at_call 61;(with_reducible refine (chain hb (K1.out _ (hb))).mono ?_);clear hb;rintro e w1 ⟨rfl,hb⟩) | (go_at_call 72;(with_reducible refine (chain hb (K2.out _ (hb))).mono ?_);clear hb;rintro e w1 ⟨rfl,hb⟩))
 go_ret3
 exact ⟨rfl,hb⟩
def lowF (ts:List Tm) (g j:Nat):Int:=lowT (10 ^ digT j*g) ts
theorem floorLoop (p:Option Addr) (n c:Nat) (ts:List Tm) (g:Nat) (z:Int) (hn:n=ts.length) (hm:n≤1000) (hg:dlen (g:Int)≤100) (hf:∀ t ∈ ts,RL t.1 2000∧dlen (t.2:Int)≤2000) (hr:isR ts=false) (N:Nat) (hN:digT N≤7000)
   (hund:∀ j,j < N→lowF ts g j / ((10 ^ digT j:Nat):Int)≠(lowF ts g j+n) / ((10 ^ digT j:Nat):Int)) (hz:lowF ts g N / ((10 ^ digT N:Nat):Int)=z) (hz2:(lowF ts g N+n) / ((10 ^ digT N:Nat):Int)=z)
   (w:World) (R:EnvR w) (h:HasT w p ts) :
   Calls Tryz.prog 74 #[.slice p n c,.string (itoaB (g:Int))] w (Ret w (.tuple #[.string (itoaB z),.bool false])):=by
 have k0:∀ w',Below w.heap.size w w'→Calls Tryz.prog 72 #[.slice p n c] w' fun e w'' => e = .returned (.tuple #[.string (ratS3 ts),.bool false])∧Below w'.heap.size w' w'':=fun w' hb=>by
   have:=rationalOf_any p n c ts hn hm w' (h.below hb)
   rwa [hr] at this
 have k3:∀ j,j≤N→∀ w',Below w.heap.size w w'→Calls Tryz.prog 113 #[.slice p n c,.string (itoaB ((10 ^ digT j*g:Nat):Int))] w' fun e w'' => e = .returned (.tuple #[.string (itoaB (lowF ts g j)),.string (itoaB (lowF ts g j+n))])∧Below w'.heap.size w' w'':=fun j hj w' hb=>by
   have h1:=pow_dlen (digT j)
   have h2:=digT_le hj
   exact enclose_any p n c ts (10 ^ digT j*g) hn hm (Nat.le_trans (dlen_natc _ _ 7001 100 (by decide) (by omega) hg) (by decide)) hf w' (R.below hb) (h.below hb)
 have hlen:∀ j,j≤N→dlen (lowF ts g j)≤23001∧dlen (lowF ts g j+n)≤23002:=fun j hj=>by
   have h1:=pow_dlen (digT j)
   have h2:=digT_le hj
   have h3:=lowT_len (S:=10 ^ digT j*g) (Nat.le_trans (dlen_natc _ _ 7001 100 (by decide) (by omega) hg) (by decide)) ts hf
   have h4:dlen (lowF ts g j)≤23001:=by unfold lowF;omega
   exact ⟨h4,dlen_add _ _ 23001 (by decide) h4 (Nat.le_trans (dlen_int (n:Int) (by omega) (by omega)) (by decide))⟩
 have K0:=Lib.hid k0
 have K3:=Lib.hid k3
 have HL:=Lib.hid hlen
 have HU:=Lib.hid hund
 have HZ:=Lib.hid hz
 have HZ2:=Lib.hid hz2
 obtain ⟨gb,hgb⟩:∃ v,itoaB (g:Int)=v:=⟨_,rfl⟩
 obtain ⟨zb,hzb⟩:∃ v,itoaB z=v:=⟨_,rfl⟩
 have HZB:=Lib.hid hzb
 have HGB:=Lib.hid hgb
 have hb:=Below.refl w.heap.size w
 rw [hgb]
 clear k0 k3 hlen hund hz hz2 hn hf hr h hgb hzb
 go_enter Tryz.func74,Tryz.ntmps74
 go_wp2_with (go_at_call 72;(with_reducible refine (chain hb (K0.out _ (hb))).mono ?_);clear hb;rintro e w1 ⟨rfl,hb⟩)
 go_loopw [9] (fun v wr=>∃ j:Nat,j≤N∧v = .int .i64 (digT j:Int)∧Below w.heap.size w wr) (fun v _=>digT N+1 - (intOf v).toNat)
 case atStart=>exact ⟨0,Nat.zero_le _,rfl,hb⟩
 case round =>
   clear hb
   obtain ⟨j,hj,rfl,hb⟩:=hrel
   have hdj:=digT_le hj
   have h1:=pow_dlen (digT j)
   obtain ⟨hl1,hl2⟩:=HL.out j hj
   have hp10:((10 ^ digT j:Nat):Int)≠0:=by have:=Nat.pow_pos (n:=digT j) (show 0 < 10 by decide);omega
   have k1:∀ w',Calls Tryz.prog 114 #[.int .i64 (digT j:Int)] w' fun e w'' => e = .returned (.string (itoaB ((10 ^ digT j:Nat):Int)))∧Below w'.heap.size w' w'':=fun w' => power_any _ (by omega) w'
   have k2:=K3.out j hj
   have k4:CR 96 #[.string (itoaB ((10 ^ digT j:Nat):Int)),.string gb] (.string (itoaB ((10 ^ digT j*g:Nat):Int))):=fun w R=>by
     have:=mul_any ((10 ^ digT j:Nat):Int) (g:Int) w R.env (by omega) (by omega)
     rwa [← Int.natCast_mul,HGB.out] at this
   have k5:CR 119 #[.string (itoaB (lowF ts g j)),.string (itoaB ((10 ^ digT j:Nat):Int))] (.tuple #[.string (itoaB (lowF ts g j / ((10 ^ digT j:Nat):Int))),.string (itoaB (lowF ts g j % ((10 ^ digT j:Nat):Int))),.int .i64 0]):=fun w R=>divMod_any _ _ w R.env (by omega) (by omega) hp10
   have k6:CR 119 #[.string (itoaB (lowF ts g j+n)),.string (itoaB ((10 ^ digT j:Nat):Int))] (.tuple #[.string (itoaB ((lowF ts g j+n) / ((10 ^ digT j:Nat):Int))),.string (itoaB ((lowF ts g j+n) % ((10 ^ digT j:Nat):Int))),.int .i64 0]):=fun w R=>divMod_any _ _ w R.env (by omega) (by omega) hp10
   obtain ⟨b1,hb1⟩:∃ b1,lowF ts g j / ((10 ^ digT j:Nat):Int)=b1:=⟨_,rfl⟩
   obtain ⟨b2,hb2⟩:∃ b2,(lowF ts g j+n) / ((10 ^ digT j:Nat):Int)=b2:=⟨_,rfl⟩
   rw [hb1] at k5
   rw [hb2] at k6
   have e1:=text_dec (itoaB b1) (itoaB b2)
   by_cases hjN:j < N
   · have hu:=HU.out j hjN
     rw [hb1,hb2] at hu
     have dn:=digT_succ j
     have d2:digT (j+1)≤digT N:=digT_le hjN
     have wd:IntKind.i64.wrap ((digT j:Int)*2)=(digT (j+1):Int):=by rw [dn,Int.natCast_mul];exact IntWalk.i64_in _ (by omega)
     have dpos:0 < digT j:=by unfold digT;have:=Nat.pow_pos (n:=j) (show 0 < 2 by decide);omega
     have d3:digT j < digT (j+1):=by omega
     rw [decide_eq_false (fun e=>hu (itoa_inj e))] at e1
     generalize itoaB b1=b1b at k5 e1
     generalize itoaB b2=b2b at k6 e1
     generalize itoaB (lowF ts g j % ((10 ^ digT j:Nat):Int))=m1 at k5
     generalize itoaB ((lowF ts g j+n) % ((10 ^ digT j:Nat):Int))=m2 at k6
     generalize itoaB (lowF ts g j+n)=hib at k2 k6
     generalize itoaB (lowF ts g j)=lob at k2 k5
     generalize itoaB ((10 ^ digT j*g:Nat):Int)=sb at k2 k4
     generalize itoaB ((10 ^ digT j:Nat):Int)=pb at k1 k4 k5 k6
     have P1:=Lib.hid k1
     have P2:=Lib.hid k2
     have P4:=Lib.hid k4
     have P5:=Lib.hid k5
     have P6:=Lib.hid k6
     clear k1 k2 k4 k5 k6
     clear hu dn hb1 hb2 hp10 hl1 hl2 h1
     go_wp2_with (first | (go_at_call 114;(with_reducible refine (chain hb (P1.out _)).mono ?_);clear hb;rintro e w1 ⟨rfl,hb⟩) | (go_at_call 113;(with_reducible refine (chain hb (P2.out _ hb)).mono ?_);clear hb;rintro e w1 ⟨rfl,hb⟩) | (go_at_call 96;(with_reducible refine (chain hb (P4.out _ (R.below hb))).mono ?_);clear hb;rintro e w1 ⟨rfl,hb⟩) | (go_at_call 119;first | ((with_reducible refine (chain hb (P5.out _ (R.below hb))).mono ?_);clear hb;rintro e w1 ⟨rfl,hb⟩) | ((with_reducible refine (chain hb (P6.out _ (R.below hb))).mono ?_);clear hb;rintro e w1 ⟨rfl,hb⟩)))
     go_roundw
     case rel=>exact ⟨j+1,hjN,by go_num,hb⟩
     case measure=>simp [intOf];omega
   · have ejN:j=N:=by omega
     subst ejN
     have ez:b1=z:=hb1.symm.trans HZ.out
     have ez2:b2=z:=hb2.symm.trans HZ2.out
     rw [ez,ez2] at e1
     rw [ez] at k5
     rw [ez2] at k6
     rw [HZB.out] at k5 k6 e1
     have e2:(zb.toList == zb.toList)=true:=beq_self_eq_true _
     generalize itoaB (lowF ts g j % ((10 ^ digT j:Nat):Int))=m1 at k5
     generalize itoaB ((lowF ts g j+n) % ((10 ^ digT j:Nat):Int))=m2 at k6
     generalize itoaB (lowF ts g j+n)=hib at k2 k6
     generalize itoaB (lowF ts g j)=lob at k2 k5
     generalize itoaB ((10 ^ digT j*g:Nat):Int)=sb at k2 k4
     generalize itoaB ((10 ^ digT j:Nat):Int)=pb at k1 k4 k5 k6
     have P1:=Lib.hid k1
     have P2:=Lib.hid k2
     have P4:=Lib.hid k4
     have P5:=Lib.hid k5
     have P6:=Lib.hid k6
     clear k1 k2 k4 k5 k6
     clear hb1 hb2 hp10 hl1 hl2 h1 e1
     go_wp2_with (first | (go_at_call 114;(with_reducible refine (chain hb (P1.out _)).mono ?_);clear hb;rintro e w1 ⟨rfl,hb⟩) | (go_at_call 113;(with_reducible refine (chain hb (P2.out _ hb)).mono ?_);clear hb;rintro e w1 ⟨rfl,hb⟩) | (go_at_call 96;(with_reducible refine (chain hb (P4.out _ (R.below hb))).mono ?_);clear hb;rintro e w1 ⟨rfl,hb⟩) | (go_at_call 119;first | ((with_reducible refine (chain hb (P5.out _ (R.below hb))).mono ?_);clear hb;rintro e w1 ⟨rfl,hb⟩) | ((with_reducible refine (chain hb (P6.out _ (R.below hb))).mono ?_);clear hb;rintro e w1 ⟨rfl,hb⟩)))
     go_ret2
     exact ⟨retSBq HZB.out.symm,hb⟩
theorem bounds_w (v:Value) (den:Int) (hd1:1≤den) (hd2:den≤1000000) (gb zb zb2 lo hi:ByteArray) (w:World) (R:EnvR w) (h1:∀ w',Below w.heap.size w w'→Calls Tryz.prog 61 #[v] w' fun e w'' => e = .returned (.int .i64 0)∧Below w'.heap.size w' w'')
   (h2:CR 73 #[.int .i64 den] (.string gb))
   (h3:∀ w',Below w.heap.size w w'→Calls Tryz.prog 74 #[v,.string gb] w' fun e w'' => e = .returned (.tuple #[.string zb,.bool false])∧Below w'.heap.size w' w'')
   (h4:CR 75 #[.string zb,.string ⟨#[49]⟩] (.string zb2))
   (h5:CR 76 #[.string zb,.string gb] (.tuple #[.string lo,.int .i64 0]))
   (h6:CR 76 #[.string zb2,.string gb] (.tuple #[.string hi,.int .i64 0]))
   (h7:CR 45 #[.string lo] (.int .i64 0))
   (h8:CR 45 #[.string hi] (.int .i64 0)) :
   Calls Tryz.prog 34 #[v,.int .i64 den] w (Ret w (.tuple #[.string lo,.string hi,.int .i64 0])):=by
 have K1:=Lib.hid h1
 have K2:=Lib.hid h2
 have K3:=Lib.hid h3
 have K4:=Lib.hid h4
 have K5:=Lib.hid h5
 have K6:=Lib.hid h6
 have K7:=Lib.hid h7
 have K8:=Lib.hid h8
 have hb:=Below.refl w.heap.size w
 have g1:¬ den < 1:=by omega
 have g2:¬ 1000000 < den:=by omega
 clear h1 h2 h3 h4 h5 h6 h7 h8
 go_enter Tryz.func34,Tryz.ntmps34
 go_wp2_with (first | (go_at_call 61;(with_reducible refine (chain hb (K1.out _ (hb))).mono ?_);clear hb;rintro e w1 ⟨rfl,hb⟩) | (go_at_call 73;(with_reducible refine (chain hb (K2.out _ (R.below hb))).mono ?_);clear hb;rintro e w1 ⟨rfl,hb⟩) | (go_at_call 74;(with_reducible refine (chain hb (K3.out _ (hb))).mono ?_);clear hb;rintro e w1 ⟨rfl,hb⟩) | (go_at_call 75;(with_reducible refine (chain hb (K4.out _ (R.below hb))).mono ?_);clear hb;rintro e w1 ⟨rfl,hb⟩) | (go_at_call 76;first | ((with_reducible refine (chain hb (K5.out _ (R.below hb))).mono ?_);clear hb;rintro e w1 ⟨rfl,hb⟩) | ((with_reducible refine (chain hb (K6.out _ (R.below hb))).mono ?_);clear hb;rintro e w1 ⟨rfl,hb⟩)) | (go_at_call 45;first | ((with_reducible refine (chain hb (K7.out _ (R.below hb))).mono ?_);clear hb;rintro e w1 ⟨rfl,hb⟩) | ((with_reducible refine (chain hb (K8.out _ (R.below hb))).mono ?_);clear hb;rintro e w1 ⟨rfl,hb⟩)))
 go_ret3
 exact ⟨rfl,hb⟩
def sqrtS (r:Nat):ByteArray:=⟨#[115,113,114,116,40]⟩ ++ itoaB (r:Int) ++ ⟨#[41]⟩
def termS (t:Tm):ByteArray:=if t.2=1 then ratB t.1.abs else if t.1.abs=1 then sqrtS t.2 else ratB t.1.abs ++ ⟨#[32]⟩ ++ sqrtS t.2
theorem termText_w (s rb a:ByteArray) (m1 m2:Bool) (e1:(rb.toList == [49])=m1) (e2:(a.toList == [49])=m2) (z1:rb.size≤20000) (z2:a.size≤50000) (h1:CR 130 #[.string s] (.string a)) (w:World) (R:EnvR w) :
   Calls Tryz.prog 81 #[.agg #[.string s,.string rb]] w (Ret w (.string (if m1 then a else if m2 then ⟨#[115,113,114,116,40]⟩ ++ rb ++ ⟨#[41]⟩ else a ++ ⟨#[32]⟩ ++ (⟨#[115,113,114,116,40]⟩ ++ rb ++ ⟨#[41]⟩)))):=by
 have K1:=Lib.hid h1
 clear h1
 have hb:Below w.heap.size w (w.alloc (Obj.cells #[Value.string s,Value.string rb] 58)):=(Below.refl _ _).alloc (Nat.le_refl _) _
 have x1:(w.alloc (Obj.cells #[Value.string s,Value.string rb] 58)).cell? ⟨w.heap.size,0,none⟩=some (Value.string s):=by simp [go_sem]
 have x2:(w.alloc (Obj.cells #[Value.string s,Value.string rb] 58)).cell? ⟨w.heap.size,1,none⟩=some (Value.string rb):=by simp [go_sem]
 have zz1:(⟨#[115,113,114,116,40]⟩ ++ rb:ByteArray).size=5+rb.size:=by rw [ByteArray.size_append];rfl
 have zz2:(⟨#[115,113,114,116,40]⟩ ++ rb ++ ⟨#[41]⟩:ByteArray).size=5+rb.size+1:=by rw [ByteArray.size_append,zz1];rfl
 have zz3:(a ++ ⟨#[32]⟩:ByteArray).size=a.size+1:=by rw [ByteArray.size_append];rfl
 have zz4:(⟨#[115,113,114,116,40]⟩:ByteArray).size=5:=rfl
 have zz5:(⟨#[41]⟩:ByteArray).size=1:=rfl
 have zz6:(⟨#[32]⟩:ByteArray).size=1:=rfl
 cases m1 with
 | true =>
   go_enter Tryz.func81,Tryz.ntmps81
   go_wp2_with (go_at_call 130;(with_reducible refine (zK hb (K1.out _ (R.below hb))).mono ?_);clear hb;rintro e w1 ⟨rfl,hk,hb⟩;replace x1:=zC hk x1;replace x2:=zC hk x2;clear hk)
   go_ret
   exact ⟨rfl,hb⟩
 | false =>
   cases m2 with
   | true =>
     go_enter Tryz.func81,Tryz.ntmps81
     go_wp2_with (go_at_call 130;(with_reducible refine (zK hb (K1.out _ (R.below hb))).mono ?_);clear hb;rintro e w1 ⟨rfl,hk,hb⟩;replace x1:=zC hk x1;replace x2:=zC hk x2;clear hk)
     go_ret
     exact ⟨rfl,hb⟩
   | false =>
     go_enter Tryz.func81,Tryz.ntmps81
     go_wp2_with (go_at_call 130;(with_reducible refine (zK hb (K1.out _ (R.below hb))).mono ?_);clear hb;rintro e w1 ⟨rfl,hk,hb⟩;replace x1:=zC hk x1;replace x2:=zC hk x2;clear hk)
     go_ret
     exact ⟨rfl,hb⟩
theorem rat_is_one {q:Rat}:((ratB q).toList == [49])=decide (q=1):=by
 have:=text_dec (ratB q) ⟨#[49]⟩
 rw [one_list] at this
 rw [this]
 have h1:ratB 1=⟨#[49]⟩:=by rw [ratB_int (by rfl)];exact itoa_one
 exact decide_eq_decide.2 ⟨fun h=>ratB_inj (h.trans h1.symm),fun h=>by rw [h];exact h1⟩
theorem sItoa_size (x:Int):(itoaB x).size≤dlen x+1:=by
 unfold itoaB
 rw [strOf_size,itoa_len]
 split <;> omega
theorem termText_any (t:Tm) (h1:RL t.1 10000) (h2:dlen (t.2:Int)≤10000) (w:World) (R:EnvR w) :
   Calls Tryz.prog 81 #[.agg #[.string (ratB t.1),.string (itoaB (t.2:Int))]] w (Ret w (.string (termS t))):=by
 have z1:=sItoa_size (t.2:Int)
 have z2:=size_of_RL (h1.abs)
 have:=termText_w (ratB t.1) (itoaB (t.2:Int)) (ratB t.1.abs) _ _ itoa_is_one rat_is_one (by omega) (by omega) (fun w R=>rabs_any t.1 (h1.mono (by decide)) w R) w R
 simp only [decide_eq_true_iff] at this
 exact this
end Go.Proofs.YtpphjnekkjeacaaGreatDoor.Kl
