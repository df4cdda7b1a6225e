import Derived.Test.YtpphjnekkjeacaaGreatDoorKlSRootsSIZ
import Derived.Test.YtpphjnekkjeacaaGreatDoorKlSRootsShB
namespace Go.Proofs.YtpphjnekkjeacaaGreatDoor.Kl
open Go Go.RowKit
set_option maxRecDepth 100000
set_option maxHeartbeats 8000000
theorem builder_below {T e:TypeId} {B b:Nat} {bs:List Value} {w w':World} (h:Lib.IsBuilderF T e B b bs w) (hb:Below w.heap.size w w'):Lib.IsBuilderF T e B b bs w':=by
 have hg:w.grownBy w' none:=⟨hb.os,hb.tape,hb.output,hb.size,fun k hk _=>hb.block k hk⟩
 have key:∀ p,Lib.BuilderAtF T e B b p bs w→Lib.BuilderAtF T e B b p bs w':=fun p hp=>by
   have hlt:=hp.lt
   obtain ⟨hB,v,hbk,hown,hne⟩:=hp
   exact ⟨hB,v,(hb.block b hlt).trans hbk,hown.kept hg (by cases v.ownBlock <;> simp),hne⟩
 exact h.elim (fun x=>.inl (key _ x)) (fun x=>.inr (key _ x))
def preS (first:Bool) (f:Rat):ByteArray:=if f.num < 0 then (if first then ⟨#[45]⟩ else ⟨#[32,45,32]⟩) else (if first then ⟨#[]⟩ else ⟨#[32,43,32]⟩)
def textL (first:Bool):List Tm→List UInt8
 | [] => []
 | t :: r=>(preS first t.1 ++ termS t).data.toList ++ textL false r
theorem textL_snoc : ∀ (l:List Tm) (f:Bool) (t:Tm),textL f (l ++ [t])=textL f l ++ (preS (f && l.isEmpty) t.1 ++ termS t).data.toList
 | [],f,t=>by show _ ++ textL false []=_;simp [textL]
 | u :: r,f,t=>by
   show _ ++ textL false (r ++ [t])=(_ ++ textL false r) ++ _
   rw [textL_snoc r false t,List.append_assoc]
   simp
def plusS (k:Nat):ByteArray:=if k=0 then ⟨#[]⟩ else ⟨#[32,43,32]⟩
def minusS (k:Nat):ByteArray:=if k=0 then ⟨#[45]⟩ else ⟨#[32,45,32]⟩
theorem preS_size (b:Bool) (f:Rat):(preS b f).size≤3:=by
 unfold preS
 cases b <;> (split <;> decide)
theorem termS_size (t:Tm) (h1:RL t.1 200) (h2:dlen (t.2:Int)≤200):(termS t).size≤700:=by
 have z1:=sItoa_size (t.2:Int)
 have z2:=size_of_RL (h1.abs)
 have e1:(sqrtS t.2).size=5+(itoaB (t.2:Int)).size+1:=by unfold sqrtS;rw [ByteArray.size_append,ByteArray.size_append];rfl
 unfold termS
 split
 · omega
 · split
   · omega
   · rw [ByteArray.size_append,ByteArray.size_append,e1]
     show (ratB t.1.abs).size+1+_≤_
     omega
theorem textL_len : ∀ (l:List Tm) (f:Bool),(∀ t ∈ l,RL t.1 200∧dlen (t.2:Int)≤200)→(textL f l).length≤l.length*703
 | [],f,_=>Nat.zero_le _
 | t :: r,f,h=>by
   have ih:=textL_len r false (fun u hu=>h u (by simp [hu]))
   have z1:=preS_size f t.1
   have z2:=termS_size t (h t (by simp)).1 (h t (by simp)).2
   show (_ ++ textL false r).length≤_
   rw [List.length_append,← size_len,ByteArray.size_append,List.length_cons]
   omega
theorem text_some (p:Option Addr) (n c:Nat) (ts:List Tm) (hn:n=ts.length) (hm:n≤40) (hn0:0 < n) (hf:∀ t ∈ ts,RL t.1 200∧dlen (t.2:Int)≤200) (w:World) (R:EnvR w) (h:HasT w p ts) (h1:∀ w',Below w.heap.size w w'→Calls Tryz.prog 61 #[.slice p n c] w' fun e w'' => e = .returned (.int .i64 0)∧Below w'.heap.size w' w'') :
   Calls Tryz.prog 38 #[.slice p n c] w (Ret w (.tuple #[.string (strOf (textL true ts)),.int .i64 0])):=by
 have K1:=Lib.hid h1
 have H:=Lib.hid h
 have HN:=Lib.hid hn
 have HF:=Lib.hid hf
 have hb:=Below.refl w.heap.size w
 have e0:((n:Int) == 0)=false:=by simp only [beq_eq_false_iff_ne,ne_eq];omega
 clear h1 h hn hf
 go_enter Tryz.func38,Tryz.ntmps38
 go_upto_region 8 with (go_at_call 61;(with_reducible refine (chain hb (K1.out _ hb)).mono ?_);clear hb;rintro e w1 ⟨rfl,hb⟩)
 have hbu:=Lib.IsBuilderF.of (Lib.fresh_isBuilder 124 5 w1)
 have hbB:=Below.refl w1.heap.size w1
 replace hbB:=hbB.alloc (Nat.le_refl _) (Obj.cells #[Value.pointer none,Value.slice none 0 0] 124)
 have hbw:=hb
 obtain ⟨wz,hwz⟩:∃ wz,w1.alloc (Obj.cells #[Value.pointer none,Value.slice none 0 0] 124)=wz:=⟨_,rfl⟩
 rw [hwz] at hbu hbB ⊢
 have hlt:w1.heap.size < wz.heap.size:=by rw [← hwz];simp
 clear hwz hb
 obtain ⟨B,hB⟩:∃ B,w1.heap.size=B:=⟨_,rfl⟩
 rw [hB] at hbu hbB hlt ⊢
 have hwB:w.heap.size≤B:=by rw [← hB];exact hbw.size
 have hbw2:Below w.heap.size w wz:=hbw.trans (hbB.mono hwB)
 have HBW:=Lib.hid hbw
 clear hbw hbB hB
 go_wp2
 go_loopw [5,6,21] (fun pl mi i wr=>∃ k:Nat,k≤n∧i = .int .i64 k∧pl = .string (plusS k)∧mi = .string (minusS k)∧Lib.IsBuilderF 124 5 B B (Lib.byteCells (textL true (ts.take k))) wr∧B < wr.heap.size∧Below w.heap.size w wr) (fun _ _ i _=>n - (intOf i).toNat)
 case atStart=>exact ⟨0,Nat.zero_le _,rfl,rfl,rfl,hbu,hlt,hbw2⟩
 case round =>
   clear hbu hlt hbw2
   obtain ⟨k,hk,rfl,rfl,rfl,hbu,hBlt,hb⟩:=hrel
   by_cases hlt:k < n
   · obtain ⟨t,ht⟩:∃ t,ts[k]? = some t:=⟨_,List.getElem?_eq_getElem (by rw [← HN.out];exact hlt)⟩
     obtain ⟨b,rfl,c0,c1⟩:=H.out k t ht
     have x0:wr.cell? ⟨b,k*2,none⟩=some (.string (ratB t.1)):=zC hb c0
     have x1:wr.cell? ⟨b,k*2+1,none⟩=some (.string (itoaB (t.2:Int))):=zC hb c1
     obtain ⟨hr1,hr2⟩:=HF.out t (List.mem_of_getElem? ht)
     have zt:=termS_size t hr1 hr2
     have k1:=fun (w:World) (R:EnvR w)=>rsign_any t.1 (hr1.mono (by decide)) w R
     have k2:=fun (w:World) (R:EnvR w)=>termText_any t (hr1.mono (by decide)) (by omega) w R
     have hlen:=textL_len (ts.take k) true (fun u hu=>HF.out u (List.mem_of_mem_take hu))
     rw [List.length_take] at hlen
     have hsn:textL true (ts.take (k+1))=textL true (ts.take k) ++ (preS (decide (k=0)) t.1 ++ termS t).data.toList:=by
       rw [List.take_add_one,ht]
       have:=textL_snoc (ts.take k) true t
       have e:(ts.take k).isEmpty=decide (k=0):=by
         rw [Bool.eq_iff_iff,List.isEmpty_iff,decide_eq_true_iff]
         refine ⟨fun h=>?_,fun h=>by rw [h];rfl⟩
         have:=congrArg List.length h
         rw [List.length_take,List.length_nil] at this
         have:=HN.out
         omega
       rw [e] at this
       exact this
     have hps:preS (decide (k=0)) t.1=if t.1.num < 0 then minusS k else plusS k:=by
       unfold preS minusS plusS
       simp only [decide_eq_true_iff]
     have hplus:plusS (k+1)=⟨#[32,43,32]⟩:=if_neg (Nat.succ_ne_zero k)
     have hminus:minusS (k+1)=⟨#[32,45,32]⟩:=if_neg (Nat.succ_ne_zero k)
     rw [hps] at hsn
     have z3:(plusS k).size≤3:=by unfold plusS;split <;> decide
     have z4:(minusS k).size≤3:=by unfold minusS;split <;> decide
     obtain ⟨y,hy⟩:∃ y,t.1.num.sign=y:=⟨_,rfl⟩
     rw [hy] at k1
     have hyl:y < 0↔t.1.num < 0:=by rw [← hy];exact Int.sign_neg_iff
     have HPL:=Lib.hid hplus
     have HMI:=Lib.hid hminus
     generalize itoaB (t.2:Int)=rb at k2 x1 c1
     generalize ratB t.1=s at k1 k2 x0 c0
     have g1:(k:Int) < (n:Int):=by omega
     have g2:(0:Int)≤(k:Int):=by omega
     have K1:=Lib.hid k1
     have K2:=Lib.hid k2
     obtain ⟨acc,hacc⟩:∃ a,textL true (ts.take k)=a:=⟨_,rfl⟩
     rw [hacc] at hbu hlen hsn
     obtain ⟨tx,htx⟩:∃ a,termS t=a:=⟨_,rfl⟩
     rw [htx] at hsn zt K2
     generalize plusS k=pk at hsn z3 ⊢
     generalize minusS k=mk at hsn z4 ⊢
     clear k1 k2 c0 c1 hr1 hr2 hps hplus hminus hacc htx ht hy
     have fin:∀ (pre:ByteArray),pre.size≤3→textL true (ts.take (k+1))=acc ++ (pre ++ tx).data.toList→∀ w',Below w.heap.size w w'→B < w'.heap.size→Lib.IsBuilderF 124 5 B B (Lib.byteCells acc) w'→Calls Tryz.prog 80 #[.pointer (some ⟨B,0,none⟩),.string (pre ++ tx)] w' fun e w'' => e = .returned (.tuple #[.int .i64 (pre ++ tx).size,.nilIface])∧Lib.IsBuilderF 124 5 B B (Lib.byteCells (textL true (ts.take (k+1)))) w''∧B < w''.heap.size∧Below w.heap.size w w'':=fun pre hp hs w' hbw hlw hbl=>by
       refine (Tryz.bWrite B B _ (pre ++ tx) w' hbl (by rw [Lib.byteCells_length,ByteArray.size_append];omega) (by omega)).mono ?_
       rintro e w'' ⟨rfl,h1,h2⟩
       refine ⟨rfl,?_,h1.lt,hbw.trans (h2.mono hwB)⟩
       rw [hs,Lib.byteCells_append,← Lib.strCells_eq]
       exact .inr h1
     have FIN:=Lib.hid fin
     clear fin
     have zz1:(pk ++ tx).size=pk.size+tx.size:=ByteArray.size_append
     have zz2:(mk ++ tx).size=mk.size+tx.size:=ByteArray.size_append
     by_cases hneg:t.1.num < 0
     · rw [if_pos hneg] at hsn
       have hy2:y < 0:=hyl.2 hneg
       have HSN:=Lib.hid hsn
       clear hsn hneg hyl
       go_upto_region 11 with fail
       refine wp_alloc1 (fun wa h0 hba=>?_)
       replace hbu:=builder_below hbu hba
       replace hBlt:=Nat.lt_of_lt_of_le hBlt hba.size
       replace hb:=hb.trans (hba.mono hb.size)
       obtain ⟨B2,hB2⟩:∃ B2,wr.heap.size=B2:=⟨_,rfl⟩
       rw [hB2] at h0
       clear x0 x1 hba
       have y0:=blk_cell h0 0 rfl
       have y1:=blk_cell h0 1 rfl
       go_wp2_with (first | (go_at_call 46;(with_reducible refine (zK hb (K1.out _ (R.below hb))).mono ?_);clear hb;rintro e w1 ⟨rfl,hk,hb⟩;replace h0:=blk_below hk h0;replace hbu:=builder_below hbu hk;replace hBlt:=Nat.lt_of_lt_of_le hBlt hk.size;clear hk;have y0:=blk_cell h0 0 rfl;have y1:=blk_cell h0 1 rfl) | (go_at_call 81;(with_reducible refine (zK hb (K2.out _ (R.below hb))).mono ?_);clear hb;rintro e w2 ⟨rfl,hk,hb⟩;replace hbu:=builder_below hbu hk;replace hBlt:=Nat.lt_of_lt_of_le hBlt hk.size;clear hk) | (go_at_call 80;(with_reducible refine (FIN.out _ z4 HSN.out _ hb hBlt hbu).mono ?_);clear hb hbu hBlt;rintro e w3 ⟨rfl,hbu,hBlt,hb⟩))
       go_roundw
       case rel =>
         first
         | exact ⟨k+1,by omega,by go_num,by rw [HPL.out],by rw [HMI.out],hbu,hBlt,hb⟩
         | iterate 20 (apply Exists.intro)
           refine ⟨?_,rfl⟩
           exact ⟨k+1,by omega,by go_num,by rw [HPL.out],by rw [HMI.out],hbu,hBlt,hb⟩
       case measure=>simp [intOf];omega
     · rw [if_neg hneg] at hsn
       have hy2:¬ y < 0:=fun h=>hneg (hyl.1 h)
       have HSN:=Lib.hid hsn
       clear hsn hneg hyl
       go_upto_region 11 with fail
       refine wp_alloc1 (fun wa h0 hba=>?_)
       replace hbu:=builder_below hbu hba
       replace hBlt:=Nat.lt_of_lt_of_le hBlt hba.size
       replace hb:=hb.trans (hba.mono hb.size)
       obtain ⟨B2,hB2⟩:∃ B2,wr.heap.size=B2:=⟨_,rfl⟩
       rw [hB2] at h0
       clear x0 x1 hba
       have y0:=blk_cell h0 0 rfl
       have y1:=blk_cell h0 1 rfl
       go_wp2_with (first | (go_at_call 46;(with_reducible refine (zK hb (K1.out _ (R.below hb))).mono ?_);clear hb;rintro e w1 ⟨rfl,hk,hb⟩;replace h0:=blk_below hk h0;replace hbu:=builder_below hbu hk;replace hBlt:=Nat.lt_of_lt_of_le hBlt hk.size;clear hk;have y0:=blk_cell h0 0 rfl;have y1:=blk_cell h0 1 rfl) | (go_at_call 81;(with_reducible refine (zK hb (K2.out _ (R.below hb))).mono ?_);clear hb;rintro e w2 ⟨rfl,hk,hb⟩;replace hbu:=builder_below hbu hk;replace hBlt:=Nat.lt_of_lt_of_le hBlt hk.size;clear hk) | (go_at_call 80;(with_reducible refine (FIN.out _ z3 HSN.out _ hb hBlt hbu).mono ?_);clear hb hbu hBlt;rintro e w3 ⟨rfl,hbu,hBlt,hb⟩))
       go_roundw
       case rel =>
         first
         | exact ⟨k+1,by omega,by go_num,by rw [HPL.out],by rw [HMI.out],hbu,hBlt,hb⟩
         | iterate 20 (apply Exists.intro)
           refine ⟨?_,rfl⟩
           exact ⟨k+1,by omega,by go_num,by rw [HPL.out],by rw [HMI.out],hbu,hBlt,hb⟩
       case measure=>simp [intOf];omega
   · have hkn:k=n:=by omega
     subst hkn
     rw [List.take_of_length_le (by rw [← HN.out];omega)] at hbu
     have k1:=Tryz.bString B B _ wr hbu (by omega)
     have K1:=Lib.hid k1
     clear k1 hbu
     go_wp2_with (go_at_call 82;(with_reducible refine K1.out.mono ?_);rintro e w2 ⟨rfl,_,hk⟩)
     go_ret2
     exact ⟨rfl,hb.trans (hk.mono hwB)⟩
instance decRL (q:Rat) (K:Nat):Decidable (RL q K):=by unfold RL;infer_instance
theorem good_one (t:Tm) (h:RL t.1 200∧dlen (t.2:Int)≤200∧t.1≠0∧0 < t.2∧(t.2=1∨sqN t.2=false)):Good [t] where
 len:=by show 1≤40;decide
 fit:=fun u hu=>by
   rw [List.mem_singleton] at hu
   rw [hu];exact h
 ord:=fun i j a b hij ha hb=>by
   match j,hij,hb with
   | 0,hij,_=>omega
   | j+1,_,hb=>simp at hb
theorem good_two (t u:Tm) (h:RL t.1 200∧dlen (t.2:Int)≤200∧t.1≠0∧0 < t.2∧(t.2=1∨sqN t.2=false)) (g:RL u.1 200∧dlen (u.2:Int)≤200∧u.1≠0∧0 < u.2∧(u.2=1∨sqN u.2=false)) (o:t.2 < u.2∧sqN (u.2*t.2)=false):Good [t,u] where
 len:=by show 2≤40;decide
 fit:=fun v hv=>by
   simp only [List.mem_cons,List.not_mem_nil,or_false] at hv
   rcases hv with rfl | rfl
   · exact h
   · exact g
 ord:=fun i j a b hij ha hb=>by
   match i,j,hij,ha,hb with
   | 0,1,_,ha,hb=>injection ha with ha;injection hb with hb;subst ha hb;exact o
   | _,0,hij,_,_=>omega
   | 1,1,hij,_,_=>omega
   | i+2,1,hij,_,_=>omega
   | _,j+2,_,_,hb=>simp at hb
theorem of8 : ofT 8=([(1,8)],0):=by decide +kernel
theorem ofH : ofT (1 / 2)=([(1 / 2,2)],0):=by decide +kernel
theorem ofQ : ofT (9 / 4)=([(3 / 2,1)],0):=by decide +kernel
theorem known3_of (q:Rat) (s:ByteArray) (ts:List Tm) (hs:ratB q=s) (hq:RL q 200) (ht:ofT q=(ts,0)) (w:World) (R:EnvR w):Calls Tryz.prog 14 #[.string s] w (RetS w ts 0):=by
 have:=of_rat q hq w R
 rwa [hs,ht] at this
def ts99 : List Tm:=[(99,1),(-70,2)]
theorem good99 : Good ts99:=good_two _ _ (by (try exact decRL _ _);decide +kernel) (by (try exact decRL _ _);decide +kernel) (by (try exact decRL _ _);decide +kernel)
theorem root99 : rootN (99*10 ^ 12*(99*10 ^ 12)*1)=99000000000000:=rootN_eq ⟨by decide,by decide⟩
theorem root70 : rootN (70*10 ^ 12*(70*10 ^ 12)*2)=98994949366116:=rootN_eq ⟨by decide,by decide⟩
theorem sizeT_eq {S:Nat} {f:Rat} {x a d r:Nat} (h1:f.num.natAbs=a) (hd:f.den=d) (hr:rootN (a*S*(a*S)*x)=r):sizeT S (f,x)=if f.num < 0 then -1 - (r:Int) / (d:Int) else (r:Int) / (d:Int):=by
 unfold sizeT
 simp only [h1,hd]
 rw [hr]
theorem low99 : lowD ts99 0=5050633883:=by
 have e1:sizeT (10 ^ 12) ((99:Rat),1)=99000000000000:=(sizeT_eq (a:=99) (d:=1) (by decide +kernel) (by decide +kernel) root99).trans (by decide +kernel)
 have e2:sizeT (10 ^ 12) ((-70:Rat),2) = -98994949366117:=(sizeT_eq (a:=70) (d:=1) (by decide +kernel) (by decide +kernel) root70).trans (by decide +kernel)
 unfold lowD lowT ts99
 rw [show digT 0=12 from rfl,List.map_cons,List.map_cons,List.map_nil,e1,e2]
 decide
theorem hasT_fit {ts:List Tm} (h:Good ts):∀ t ∈ ts,RL t.1 2000∧dlen (t.2:Int)≤2000:=fun t ht=>⟨(h.fit t ht).1.mono (by decide),by have:=(h.fit t ht).2.1;omega⟩
theorem known3_sign (p:Option Addr) (c:Nat) (w:World) (R:EnvS w) (h:HasT w p ts99) :
   Calls Tryz.prog 27 #[.slice p 2 c] w (Ret w (.tuple #[.int .i64 1,.int .i64 0])):=
 surdSign_w _ 1 w (fun w' hb=>check_ok p 2 c ts99 rfl good99 w' (R.below hb) (h.below hb)) (fun w' hb =>
   signLoop p 2 c ts99 1 1 rfl (by decide) (by decide) (hasT_fit good99) 0 (by decide) (fun j hj=>absurd hj (Nat.not_lt_zero _)) (.inl ⟨rfl,by rw [low99];decide⟩) w' (R.toEnvR.below hb) (h.below hb)
     (fun t ht=>by injection ht with ht;subst ht;decide +kernel) (by decide +kernel))
def tsTx : List Tm:=[(1 / 2,1),(-1,5)]
theorem goodTx : Good tsTx:=good_two _ _ (by (try exact decRL _ _);decide +kernel) (by (try exact decRL _ _);decide +kernel) (by (try exact decRL _ _);decide +kernel)
theorem known3_text (p:Option Addr) (c:Nat) (w:World) (R:EnvS w) (h:HasT w p tsTx) :
   Calls Tryz.prog 38 #[.slice p 2 c] w (Ret w (.tuple #[.string ⟨#[49,47,50,32,45,32,115,113,114,116,40,53,41]⟩,.int .i64 0])):=by
 have:=text_some p 2 c tsTx rfl (by decide) (by decide) (fun t ht=>⟨(goodTx.fit t ht).1,(goodTx.fit t ht).2.1⟩) w R.toEnvR h (fun w' hb=>check_ok p 2 c tsTx rfl goodTx w' (R.below hb) (h.below hb))
 rwa [show strOf (textL true tsTx)=⟨#[49,47,50,32,45,32,115,113,114,116,40,53,41]⟩ by decide +kernel] at this
def tsR2 : List Tm:=[(1,2)]
theorem goodR2 : Good tsR2:=good_one _ (by (try exact decRL _ _);decide +kernel)
theorem rootR2 : rootN (1*(10 ^ 12*10)*(1*(10 ^ 12*10))*2)=14142135623730:=rootN_eq ⟨by decide,by decide⟩
theorem lowR2 : lowF tsR2 10 0=14142135623730:=by
 have e1:sizeT (10 ^ 12*10) ((1:Rat),2)=14142135623730:=(sizeT_eq (a:=1) (d:=1) (by decide +kernel) (by decide +kernel) rootR2).trans (by decide +kernel)
 unfold lowF lowT tsR2
 rw [show digT 0=12 from rfl,List.map_cons,List.map_nil,e1]
 decide
theorem known3_bounds (p:Option Addr) (c:Nat) (w:World) (R:EnvS w) (h:HasT w p tsR2) :
   Calls Tryz.prog 34 #[.slice p 1 c,.int .i64 10] w (Ret w (.tuple #[.string ⟨#[55,47,53]⟩,.string ⟨#[51,47,50]⟩,.int .i64 0])):=by
 have b10:itoaB 10=⟨#[49,48]⟩:=by decide +kernel
 have b14:itoaB 14=⟨#[49,52]⟩:=by decide +kernel
 have b15:itoaB 15=⟨#[49,53]⟩:=by decide +kernel
 have r1:ratB (Rat.divInt 14 10)=⟨#[55,47,53]⟩:=by decide +kernel
 have r2:ratB (Rat.divInt 15 10)=⟨#[51,47,50]⟩:=by decide +kernel
 refine bounds_w (.slice p 1 c) 10 (by decide) (by decide) ⟨#[49,48]⟩ ⟨#[49,52]⟩ ⟨#[49,53]⟩ _ _ w R.toEnvR (fun w' hb=>check_ok p 1 c tsR2 rfl goodR2 w' (R.below hb) (h.below hb)) (fun w R=>?_) (fun w' hb=>?_) (fun w R=>?_) (fun w R=>?_) (fun w R=>?_) (fun w R=>?_) (fun w R=>?_)
 · have:=of_any 10 (by decide) (by decide) w R.env
   rwa [b10] at this
 · have:=floorLoop p 1 c tsR2 10 14 rfl (by decide) (by decide +kernel) (hasT_fit goodR2) rfl 0 (by decide) (fun j hj=>absurd hj (Nat.not_lt_zero _)) (by rw [lowR2];decide) (by rw [lowR2];decide) w' (R.toEnvR.below hb) (h.below hb)
   rw [show ((10:Nat):Int)=10 from rfl,b10,b14] at this
   exact this
 · have:=add_any 14 1 w R.env (by decide +kernel) (by decide +kernel)
   rwa [b14,itoa_one,show (14+1:Int)=15 from rfl,b15] at this
 · have:=rnew_any 14 10 w R (by decide +kernel) (by decide +kernel) (by decide)
   rwa [b14,b10,r1] at this
 · have:=rnew_any 15 10 w R (by decide +kernel) (by decide +kernel) (by decide)
   rwa [b15,b10,r2] at this
 · have:=rcheck_rat (Rat.divInt 14 10) (by (try exact decRL _ _);decide +kernel) w R
   rwa [r1,show rlB (Rat.divInt 14 10) 200=true by decide +kernel] at this
 · have:=rcheck_rat (Rat.divInt 15 10) (by (try exact decRL _ _);decide +kernel) w R
   rwa [r2,show rlB (Rat.divInt 15 10) 200=true by decide +kernel] at this
theorem chainS {P:Program} {K:FuncId} {args:Array Value} {w w0:World} {ts:List Tm} {v:Int} (hb:Below w0.heap.size w0 w) (h:Calls P K args w (RetS w ts v)) :
   Calls P K args w fun e w' => ∃ p n c,e = .returned (.tuple #[.slice p n c,.int .i64 v])∧n=ts.length∧n≤c∧c≤1000000∧HasT w' p ts∧Below w.heap.size w w'∧Below w0.heap.size w0 w':=
 h.mono fun _ _ ⟨p,n,c,h1,h2,h3,h4,h5,h6⟩=>⟨p,n,c,h1,h2,h3,h4,h5,h6,hb.trans (h6.mono hb.size)⟩
theorem chainL {P:Program} {K:FuncId} {args:Array Value} {w w0:World} {ts:List Tm} (hb:Below w0.heap.size w0 w) (h:Calls P K args w (RetL w ts)) :
   Calls P K args w fun e w' => ∃ p n c,e = .returned (.slice p n c)∧n=ts.length∧n≤c∧HasT w' p ts∧Below w.heap.size w w'∧Below w0.heap.size w0 w':=
 h.mono fun _ _ ⟨p,n,c,h1,h2,h3,h4,h5⟩=>⟨p,n,c,h1,h2,h3,h4,h5,hb.trans (h5.mono hb.size)⟩
theorem same1 (p q:Option Addr) (c d:Nat) (t:Tm) (w:World) (h1:HasT w p [t]) (h2:HasT w q [t]) :
   Calls Tryz.prog 17 #[.slice p 1 c,.slice q 1 d] w (Ret w (.bool true)):=by
 have:=same_any p q 1 c 1 d [t] [t] rfl rfl (by decide) (by decide) w h1 h2
 rwa [decide_eq_true rfl] at this
theorem lit8 : ratB 8=⟨#[56]⟩:=by decide +kernel
theorem hasT8 {w:World} {b:Nat} {T:TypeId} (h:w.heap[b]? = some (.cells #[.string ⟨#[49]⟩,.string ⟨#[56]⟩] T (0,0))):HasT w (some ⟨b,0,none⟩) [((1:Rat),8)]:=by
 rw [show (⟨#[49]⟩:ByteArray)=ratB 1 by decide +kernel,show (⟨#[56]⟩:ByteArray)=itoaB ((8:Nat):Int) by decide +kernel] at h
 exact HasT.one h
theorem hasTH {w:World} {b:Nat} {T:TypeId} (h:w.heap[b]? = some (.cells #[.string ⟨#[49,47,50]⟩,.string ⟨#[50]⟩] T (0,0))):HasT w (some ⟨b,0,none⟩) [((1 / 2:Rat),2)]:=by
 rw [show (⟨#[49,47,50]⟩:ByteArray)=ratB (1 / 2) by decide +kernel,show (⟨#[50]⟩:ByteArray)=itoaB ((2:Nat):Int) by decide +kernel] at h
 exact HasT.one h
theorem hasTQ {w:World} {b:Nat} {T:TypeId} (h:w.heap[b]? = some (.cells #[.string ⟨#[51,47,50]⟩,.string ⟨#[49]⟩] T (0,0))):HasT w (some ⟨b,0,none⟩) [((3 / 2:Rat),1)]:=by
 rw [show (⟨#[51,47,50]⟩:ByteArray)=ratB (3 / 2) by decide +kernel,show (⟨#[49]⟩:ByteArray)=itoaB ((1:Nat):Int) by decide +kernel] at h
 exact HasT.one h
theorem hasT99 {w:World} {b:Nat} {T:TypeId} (h:w.heap[b]? = some (.cells #[.string ⟨#[57,57]⟩,.string ⟨#[49]⟩,.string ⟨#[45,55,48]⟩,.string ⟨#[50]⟩] T (0,0))):HasT w (some ⟨b,0,none⟩) ts99:=by
 rw [show (⟨#[57,57]⟩:ByteArray)=ratB 99 by decide +kernel,show (⟨#[49]⟩:ByteArray)=itoaB ((1:Nat):Int) by decide +kernel,show (⟨#[45,55,48]⟩:ByteArray)=ratB (-70) by decide +kernel,show (⟨#[50]⟩:ByteArray)=itoaB ((2:Nat):Int) by decide +kernel] at h
 exact HasT.two h
theorem hasTTx {w:World} {b:Nat} {T:TypeId} (h:w.heap[b]? = some (.cells #[.string ⟨#[49,47,50]⟩,.string ⟨#[49]⟩,.string ⟨#[45,49]⟩,.string ⟨#[53]⟩] T (0,0))):HasT w (some ⟨b,0,none⟩) tsTx:=by
 rw [show (⟨#[49,47,50]⟩:ByteArray)=ratB (1 / 2) by decide +kernel,show (⟨#[49]⟩:ByteArray)=itoaB ((1:Nat):Int) by decide +kernel,show (⟨#[45,49]⟩:ByteArray)=ratB (-1) by decide +kernel,show (⟨#[53]⟩:ByteArray)=itoaB ((5:Nat):Int) by decide +kernel] at h
 exact HasT.two h
theorem hasTR2 {w:World} {b:Nat} {T:TypeId} (h:w.heap[b]? = some (.cells #[.string ⟨#[49]⟩,.string ⟨#[50]⟩] T (0,0))):HasT w (some ⟨b,0,none⟩) tsR2:=by
 rw [show (⟨#[49]⟩:ByteArray)=ratB 1 by decide +kernel,show (⟨#[50]⟩:ByteArray)=itoaB ((2:Nat):Int) by decide +kernel] at h
 exact HasT.one h
theorem known3_same8 (p:Option Addr) (c B:Nat) (w:World) (h1:HasT w p [((1:Rat),8)]) (h2:w.heap[B]? = some (.cells #[.string ⟨#[49]⟩,.string ⟨#[56]⟩] 39 (0,0))):Calls Tryz.prog 17 #[.slice p 1 c,.slice (some ⟨B,0,none⟩) 1 1] w (Ret w (.bool true)):=same1 p _ c 1 _ w h1 (hasT8 h2)
theorem known3_sameH (p:Option Addr) (c B:Nat) (w:World) (h1:HasT w p [((1 / 2:Rat),2)]) (h2:w.heap[B]? = some (.cells #[.string ⟨#[49,47,50]⟩,.string ⟨#[50]⟩] 39 (0,0))):Calls Tryz.prog 17 #[.slice p 1 c,.slice (some ⟨B,0,none⟩) 1 1] w (Ret w (.bool true)):=same1 p _ c 1 _ w h1 (hasTH h2)
theorem known3_sameQ (p:Option Addr) (c B:Nat) (w:World) (h1:HasT w p [((3 / 2:Rat),1)]) (h2:w.heap[B]? = some (.cells #[.string ⟨#[51,47,50]⟩,.string ⟨#[49]⟩] 39 (0,0))):Calls Tryz.prog 17 #[.slice p 1 c,.slice (some ⟨B,0,none⟩) 1 1] w (Ret w (.bool true)):=same1 p _ c 1 _ w h1 (hasTQ h2)
theorem known3_any (w:World) (R:EnvS w) :
   Calls Tryz.prog 13 #[] w (Ret w (.bool true)):=by
 have A1:=Lib.hid (known3_of 8 ⟨#[56]⟩ _ lit8 (by (try exact decRL _ _);decide +kernel) of8)
 have A2:=Lib.hid (known3_of (1 / 2) ⟨#[49,47,50]⟩ _ (by (try exact decRL _ _);decide +kernel) (by (try exact decRL _ _);decide +kernel) ofH)
 have A3:=Lib.hid (known3_of (9 / 4) ⟨#[57,47,52]⟩ _ (by (try exact decRL _ _);decide +kernel) (by (try exact decRL _ _);decide +kernel) ofQ)
 have hb:=Below.refl w.heap.size w
 go_enter Tryz.func13,Tryz.ntmps13
 go_upto_region 2 with (go_at_call 14;((with_reducible refine (chainS hb (A1.out _ (R.toEnvR.below hb))).mono ?_);clear hb;rintro e w1 ⟨p,m,c,rfl,hm,_,_,hT,hk,hb⟩;obtain rfl:m=1:=hm;(try replace hTa:=hTa.below hk);(try replace hTb:=hTb.below hk);(try replace hTc:=hTc.below hk);have hTa:=hT;clear hT hk))
 go_upto_region 3 with (go_at_call 14;((with_reducible refine (chainS hb (A2.out _ (R.toEnvR.below hb))).mono ?_);clear hb;rintro e w1 ⟨p,m,c,rfl,hm,_,_,hT,hk,hb⟩;obtain rfl:m=1:=hm;(try replace hTa:=hTa.below hk);(try replace hTb:=hTb.below hk);(try replace hTc:=hTc.below hk);have hTb:=hT;clear hT hk))
 go_upto_region 4 with (go_at_call 14;((with_reducible refine (chainS hb (A3.out _ (R.toEnvR.below hb))).mono ?_);clear hb;rintro e w1 ⟨p,m,c,rfl,hm,_,_,hT,hk,hb⟩;obtain rfl:m=1:=hm;(try replace hTa:=hTa.below hk);(try replace hTb:=hTb.below hk);(try replace hTc:=hTc.below hk);have hTc:=hT;clear hT hk))
 go_upto_region 7 with (first | (go_at_call 27;refine calls_alloc1 (fun wq hq hbq=>?_);have hb2:=hb.trans (hbq.mono hb.size);(with_reducible refine (zK hb2 (known3_sign _ _ wq (R.below hb2) (hasT99 hq))).mono ?_);clear hb;rintro e w1 ⟨rfl,hk1,hb⟩;have hk:=hbq.trans (hk1.mono hbq.size);(try replace hTa:=hTa.below hk);(try replace hTb:=hTb.below hk);(try replace hTc:=hTc.below hk);clear hk hk1 hbq hb2 hq) | (go_at_call 38;refine calls_alloc1 (fun wq hq hbq=>?_);have hb2:=hb.trans (hbq.mono hb.size);(with_reducible refine (zK hb2 (known3_text _ _ wq (R.below hb2) (hasTTx hq))).mono ?_);clear hb;rintro e w1 ⟨rfl,hk1,hb⟩;have hk:=hbq.trans (hk1.mono hbq.size);(try replace hTa:=hTa.below hk);(try replace hTb:=hTb.below hk);(try replace hTc:=hTc.below hk);clear hk hk1 hbq hb2 hq) | (go_at_call 34;refine calls_alloc1 (fun wq hq hbq=>?_);have hb2:=hb.trans (hbq.mono hb.size);(with_reducible refine (zK hb2 (known3_bounds _ _ wq (R.below hb2) (hasTR2 hq))).mono ?_);clear hb;rintro e w1 ⟨rfl,hk1,hb⟩;have hk:=hbq.trans (hk1.mono hbq.size);(try replace hTa:=hTa.below hk);(try replace hTb:=hTb.below hk);(try replace hTc:=hTc.below hk);clear hk hk1 hbq hb2 hq))
 go_wp2_with (first | (go_at_call 18;first | ((with_reducible refine (chainL hb (plain_any _ 1 _ _ rfl (by decide) _ hTa)).mono ?_);clear hb;rintro e w1 ⟨q,m,d,rfl,hm,_,hT,hk,hb⟩;obtain rfl:m=1:=hm;(try replace hTa:=hTa.below hk);(try replace hTb:=hTb.below hk);(try replace hTc:=hTc.below hk);have hQ:=hT;clear hT hk) | ((with_reducible refine (chainL hb (plain_any _ 1 _ _ rfl (by decide) _ hTb)).mono ?_);clear hb;rintro e w1 ⟨q,m,d,rfl,hm,_,hT,hk,hb⟩;obtain rfl:m=1:=hm;(try replace hTa:=hTa.below hk);(try replace hTb:=hTb.below hk);(try replace hTc:=hTc.below hk);have hQ:=hT;clear hT hk) | ((with_reducible refine (chainL hb (plain_any _ 1 _ _ rfl (by decide) _ hTc)).mono ?_);clear hb;rintro e w1 ⟨q,m,d,rfl,hm,_,hT,hk,hb⟩;obtain rfl:m=1:=hm;(try replace hTa:=hTa.below hk);(try replace hTb:=hTb.below hk);(try replace hTc:=hTc.below hk);have hQ:=hT;clear hT hk)) | (go_at_call 17;refine calls_alloc1 (fun wq hq hbq=>?_);have hb2:=hb.trans (hbq.mono hb.size);first | ((with_reducible refine (zK hb2 (known3_same8 _ _ _ wq (hQ.below hbq) hq)).mono ?_);clear hb;rintro e w1 ⟨rfl,hk1,hb⟩;have hk:=hbq.trans (hk1.mono hbq.size);(try replace hTa:=hTa.below hk);(try replace hTb:=hTb.below hk);(try replace hTc:=hTc.below hk);clear hk hk1 hbq hb2 hq hQ) | ((with_reducible refine (zK hb2 (known3_sameH _ _ _ wq (hQ.below hbq) hq)).mono ?_);clear hb;rintro e w1 ⟨rfl,hk1,hb⟩;have hk:=hbq.trans (hk1.mono hbq.size);(try replace hTa:=hTa.below hk);(try replace hTb:=hTb.below hk);(try replace hTc:=hTc.below hk);clear hk hk1 hbq hb2 hq hQ) | ((with_reducible refine (zK hb2 (known3_sameQ _ _ _ wq (hQ.below hbq) hq)).mono ?_);clear hb;rintro e w1 ⟨rfl,hk1,hb⟩;have hk:=hbq.trans (hk1.mono hbq.size);(try replace hTa:=hTa.below hk);(try replace hTb:=hTb.below hk);(try replace hTc:=hTc.below hk);clear hk hk1 hbq hb2 hq hQ)))
 go_ret
 exact ⟨rfl,hb⟩
theorem refRoot_big (X:Nat) (w:World) (E:Env w) (hx:dlen (X:Int)≤1000) :
   Calls Tryz.prog 97 #[.string (itoaB (X:Int))] w (Ret w (.string (itoaB (rootN X)))):=by
 by_cases h0:X=0
 · subst h0
   have e0:itoaB ((0:Nat):Int)=⟨#[48]⟩:=(itoa_eq_zero 0).2 rfl
   have e1:rootN 0=0:=rfl
   rw [e1,e0]
   go_enter Tryz.func97,Tryz.ntmps97
   go_wp2
   go_ret
   exact ⟨rfl,Below.refl _ _⟩
 · have hz:((itoaB (X:Int)).toList == [48])=false:=by
     rw [← decide_eq_false (show ¬ (X:Int)=0 by omega),Bool.eq_iff_iff,beq_iff_eq,decide_eq_true_iff,← itoa_eq_zero,Lib.toList_data]
     exact ⟨fun h=>dat_inj h,fun h=>by rw [h]⟩
   have hsz:=itoaB_size_nat X
   obtain ⟨L,hL⟩:∃ L,dlen (X:Int)=L:=⟨_,rfl⟩
   rw [hL] at hsz hx
   obtain ⟨K,hK⟩:∃ K,(L+1) / 2=K:=⟨_,rfl⟩
   have hK2:K≤500:=by omega
   have hab:X < 10 ^ K*10 ^ K:=by
     rw [← hK];exact ten_above X L (by rw [← hL];exact dig_lt X)
   have e10:itoaB 10=⟨#[49,48]⟩:=by decide +kernel
   have e2:itoaB 2=⟨#[50]⟩:=by decide +kernel
   have hpow:CE 142 #[.string ⟨#[49,48]⟩,.int .i64 K] (.string (itoaB ((10 ^ K:Nat):Int))):=fun w E=>by
     have:=refPower_gen 10 K 500 w E hK2 (by decide) (by decide +kernel) (fun k hk=>by have h:=dlen_le_pow (10 ^ k) k (Nat.le_refl _);rw [Int.natCast_pow] at h;exact Nat.le_trans h (by omega))
     rwa [e10,show ((10:Int) ^ K)=((10 ^ K:Nat):Int) by rw [Int.natCast_pow];rfl] at this
   have hdx:dlen (X:Int)≤9000:=by omega
   have dm:∀ (g:Nat),g≠0→dlen (g:Int)≤9000→CE 78 #[.string (itoaB (X:Int)),.string (itoaB (g:Int))] (.tuple #[.string (itoaB ((X / g:Nat):Int)),.string (itoaB ((X % g:Nat):Int))]):=fun g hg hd w E=>by
     have:=refDivMod_any (X:Int) (g:Int) w E hdx hd (by omega)
     rwa [← Int.natCast_ediv,← Int.natCast_emod] at this
   have dm2:∀ (s:Nat),dlen (s:Int)≤9000→CE 78 #[.string (itoaB (s:Int)),.string ⟨#[50]⟩] (.tuple #[.string (itoaB ((s / 2:Nat):Int)),.string (itoaB ((s % 2:Nat):Int))]):=fun s hd w E=>by
     have:=refDivMod_any (s:Int) 2 w E hd (by decide +kernel) (by decide)
     rw [e2] at this
     exact this
   obtain ⟨mv,hmv⟩:=itoa_val
   obtain ⟨G,hG⟩:∃ G,10 ^ K=G:=⟨_,rfl⟩
   have hGd:∀ g,g≤G→dlen (g:Int)≤501:=fun g hg=>by
     have:=dlen_le_pow g K (by rw [hG];exact hg);omega
   have hG1:1≤G:=by rw [← hG];exact Nat.one_le_pow _ _ (by decide)
   have hXd:∀ g,dlen ((X / g:Nat):Int)≤1000:=fun g=>dlen_nat_le _ (X:Int) 1000 (by decide) (by rw [Int.natAbs_natCast];exact Nat.div_le_self _ _) (by rw [hL];exact hx)
   rw [hG] at hab
   simp only [hG] at hpow
   have z1:IntKind.i64.wrap ((L:Int)+1)=((L+1:Nat):Int):=by rw [Int.natCast_add];exact IntWalk.i64_in _ (by omega)
   obtain ⟨S1,hS1⟩:∃ S1,L+1=S1:=⟨_,rfl⟩
   rw [hS1] at z1 hK
   have z3:(S1:Int).tdiv 2=(K:Int):=by rw [Int.tdiv_eq_ediv_of_nonneg (by omega)];omega
   obtain ⟨a,ha⟩:∃ a,itoaB (X:Int)=a:=⟨_,rfl⟩
   rw [ha] at hz hsz ⊢
   simp only [ha] at dm
   have HP:=Lib.hid hpow
   have DM:=Lib.hid dm
   have DM2:=Lib.hid dm2
   have HMV:=Lib.hid hmv
   have HGD:=Lib.hid hGd
   have HXD:=Lib.hid hXd
   have HAB:Hid (X < (G+1)*(G+1)):=Lib.hid (above_succ hab)
   clear hpow dm dm2 hmv hGd hXd hab hG hK hS1 e10 e2 ha hx hdx hL
   have hb:=Below.refl w.heap.size w
   go_enter Tryz.func97,Tryz.ntmps97
   go_wp2_with (go_at_call 142;refine (chain hb (HP.out _ (E.below hb))).mono ?_;clear hb;rintro e w1 ⟨rfl,hb⟩)
   have HB:=Lib.hid hb
   clear hb
   go_loopw [3] (fun gv wr=>∃ g:Nat,gv = .string (itoaB (g:Int))∧1≤g∧g≤G∧Hid (X < (g+1)*(g+1))∧Below w.heap.size w wr) (fun gv _=>mv gv)
   case atStart=>exact ⟨G,rfl,hG1,Nat.le_refl _,HAB,HB.out⟩
   case round =>
     obtain ⟨g,rfl,hg1,hg2,HA,hb⟩:=hrel
     clear HB
     have hgd:=HGD.out g hg2
     have hxd:=HXD.out g
     have c1:CE 78 #[.string a,.string (itoaB (g:Int))] (.tuple #[.string (itoaB ((X / g:Nat):Int)),.string (itoaB ((X % g:Nat):Int))]):=DM.out g (by omega) (by omega)
     have c2:CE 31 #[.string (itoaB (g:Int)),.string (itoaB ((X / g:Nat):Int))] (.string (itoaB ((g+X / g:Nat):Int))):=fun w E=>by
       have:=refAdd_any (g:Int) ((X / g:Nat):Int) w E (by omega) (by omega)
       rwa [← Int.natCast_add] at this
     have hsd:dlen ((g+X / g:Nat):Int)≤1001:=by
       rw [Int.natCast_add];exact dlen_add _ _ 1000 (by decide) (by omega) hxd
     have c3:=DM2.out (g+X / g) (by omega)
     have hna:=newton_above g X hg1
     have hnp:=newton_pos g X hg1 (by omega)
     obtain ⟨M,hM⟩:∃ M,(g+X / g) / 2=M:=⟨_,rfl⟩
     rw [hM] at hna hnp
     simp only [hM] at c3
     have hMd:dlen (M:Int)≤1001:=dlen_nat_le M ((g+X / g:Nat):Int) 1001 (by decide) (by rw [Int.natAbs_natCast,← hM];exact Nat.div_le_self _ _) hsd
     have c4:CE 43 #[.string (itoaB (M:Int)),.string (itoaB (g:Int))] (.int .i64 ((M:Int) - g).sign):=fun w E=>refCompare_any (M:Int) (g:Int) w E (by omega) (by omega)
     have hend:g≤M→rootN X=g:=fun h=>rootN_eq (newton_end g X HA.out (by rw [hM];exact h))
     have hmg:=HMV.out g
     have hmM:=HMV.out M
     obtain ⟨o,ho⟩:∃ o,((M:Int) - g).sign=o:=⟨_,rfl⟩
     simp only [ho] at c4
     have ho1:g≤M→0≤o:=fun h=>by
       rw [← ho]
       rcases Nat.lt_or_eq_of_le h with h | h
       · rw [Int.sign_eq_one_of_pos (by omega)];decide
       · rw [h,Int.sub_self];decide
     have ho2:¬ g≤M→¬ 0≤o:=fun h=>by
       rw [← ho,Int.sign_eq_neg_one_of_neg (by omega)];decide
     have hfin:g≤M→itoaB ((rootN X:Nat):Int)=itoaB (g:Int):=fun h=>by rw [hend h]
     obtain ⟨sg,hsg⟩:∃ sg,itoaB (g:Int)=sg:=⟨_,rfl⟩
     obtain ⟨sq,hsq⟩:∃ sq,itoaB ((X / g:Nat):Int)=sq:=⟨_,rfl⟩
     obtain ⟨ss,hss⟩:∃ ss,itoaB ((g+X / g:Nat):Int)=ss:=⟨_,rfl⟩
     obtain ⟨sm,hsm⟩:∃ sm,itoaB (M:Int)=sm:=⟨_,rfl⟩
     rw [hsg] at hmg ⊢
     rw [hsm] at hmM
     simp only [hsg] at hfin
     simp only [hsg,hsq,hss,hsm] at c1 c2 c3 c4
     have C1:=Lib.hid c1
     have C2:=Lib.hid c2
     have C3:=Lib.hid c3
     have C4:=Lib.hid c4
     have HSM:=Lib.hid hsm
     have HMG:=Lib.hid hmg
     have HMM:=Lib.hid hmM
     have HFIN:=Lib.hid hfin
     have HNA:=Lib.hid hna
     clear c1 c2 c3 c4 hsg hsq hss hsm hmg hmM hfin hna ho hend hMd hsd hgd hxd hM
     by_cases hge:g≤M
     · have hoo:=ho1 hge
       have HF:=Lib.hid (HFIN.out hge)
       clear ho1 ho2
       go_wp2_with (first | (go_at_call 78;first | (with_reducible refine (chain hb (C1.out _ (E.below hb))).mono ?_;clear hb;rintro e w1 ⟨rfl,hb⟩) | (with_reducible refine (chain hb (C3.out _ (E.below hb))).mono ?_;clear hb;rintro e w1 ⟨rfl,hb⟩)) | (go_at_call 31;refine (chain hb (C2.out _ (E.below hb))).mono ?_;clear hb;rintro e w1 ⟨rfl,hb⟩) | (go_at_call 43;refine (chain hb (C4.out _ (E.below hb))).mono ?_;clear hb;rintro e w1 ⟨rfl,hb⟩))
       go_ret
       exact ⟨retS HF.out.symm,hb⟩
     · have hoo:=ho2 hge
       clear ho1 ho2
       go_wp2_with (first | (go_at_call 78;first | (with_reducible refine (chain hb (C1.out _ (E.below hb))).mono ?_;clear hb;rintro e w1 ⟨rfl,hb⟩) | (with_reducible refine (chain hb (C3.out _ (E.below hb))).mono ?_;clear hb;rintro e w1 ⟨rfl,hb⟩)) | (go_at_call 31;refine (chain hb (C2.out _ (E.below hb))).mono ?_;clear hb;rintro e w1 ⟨rfl,hb⟩) | (go_at_call 43;refine (chain hb (C4.out _ (E.below hb))).mono ?_;clear hb;rintro e w1 ⟨rfl,hb⟩))
       exact ⟨⟨M,by rw [HSM.out],hnp,by omega,HNA,hb⟩,by rw [HMM.out,HMG.out];omega⟩
theorem square_w (s r m:ByteArray) (is:Bool) (e1:(m.toList == s.toList)=is) (h1:CR 97 #[.string s] (.string r)) (h2:CR 44 #[.string r,.string r] (.string m)) (w:World) (R:EnvR w) :
   Calls Tryz.prog 50 #[.string s] w (Ret w (.tuple #[.string r,.bool is])):=by
 have C1:=Lib.hid h1
 have C2:=Lib.hid h2
 clear h1 h2
 have hb:=Below.refl w.heap.size w
 go_enter Tryz.func50,Tryz.ntmps50
 go_wp2_with ((first | (go_at_call 97;with_reducible refine (chRA hb R C1).mono ?_) | (go_at_call 44;with_reducible refine (chRA hb R C2).mono ?_));clear hb;rintro e w1 ⟨rfl,hb⟩)
 go_ret2
 exact ⟨rfl,hb⟩
theorem square_any (a:Nat) (ha:dlen (a:Int)≤1000) (w:World) (R:EnvR w) :
   Calls Tryz.prog 50 #[.string (itoaB (a:Int))] w (Ret w (.tuple #[.string (itoaB (rootN a:Int)),.bool (sqN a)])):=by
 have hr:=rootN_dlen a 1000 (by decide) ha
 refine square_w _ _ (itoaB ((rootN a:Int)*(rootN a:Int))) _ ?_ (fun w R=>refRoot_big a w R.env ha) (fun w R=>refMul_any _ _ w R.env (by omega) (by omega)) w R
 rw [text_dec]
 unfold sqN
 refine decide_eq_decide.2 ⟨fun h=>?_,fun h=>?_⟩
 · have:=itoa_inj h
   rw [← Int.natCast_mul] at this
   omega
 · rw [← Int.natCast_mul,h]
theorem make3_w (a b g x y u v:ByteArray) (m:Bool) (e1:(y.toList == [49])=m) (z1:x.size≤100000) (z2:y.size≤100000) (h1:CR 52 #[.string a,.string b] (.string g))
   (h2:CR 78 #[.string a,.string g] (.tuple #[.string x,.string u]))
   (h3:CR 78 #[.string b,.string g] (.tuple #[.string y,.string v])) (w:World) (R:EnvR w) :
   Calls Tryz.prog 36 #[.string a,.string b] w (Ret w (.string (if m then x else x ++ ⟨#[47]⟩ ++ y))):=by
 have zz:(x ++ ⟨#[47]⟩:ByteArray).size=x.size+1:=by rw [ByteArray.size_append];rfl
 have C1:=Lib.hid h1
 have C2:=Lib.hid h2
 have C3:=Lib.hid h3
 clear h1 h2 h3
 have hb:=Below.refl w.heap.size w
 cases m with
 | true =>
   go_enter Tryz.func36,Tryz.ntmps36
   go_wp2_with ((first | (go_at_call 52;with_reducible refine (chRA hb R C1).mono ?_) | (go_at_call 78;first | with_reducible refine (chRA hb R C2).mono ?_ | with_reducible refine (chRA hb R C3).mono ?_));clear hb;rintro e w1 ⟨rfl,hb⟩)
   go_ret
   exact ⟨rfl,hb⟩
 | false =>
   go_enter Tryz.func36,Tryz.ntmps36
   go_wp2_with ((first | (go_at_call 52;with_reducible refine (chRA hb R C1).mono ?_) | (go_at_call 78;first | with_reducible refine (chRA hb R C2).mono ?_ | with_reducible refine (chRA hb R C3).mono ?_));clear hb;rintro e w1 ⟨rfl,hb⟩)
   go_ret
   exact ⟨rfl,hb⟩
theorem make3_any (n d:Int) (hd:0 < d) (hn:dlen n≤2000) (hdl:dlen d≤2000) (w:World) (R:EnvR w) :
   Calls Tryz.prog 36 #[.string (itoaB n),.string (itoaB d)] w (Ret w (.string (ratB (Rat.divInt n d)))):=by
 obtain ⟨m1,m2⟩:=mk_parts n d hd
 obtain ⟨g,hg⟩:∃ g,Nat.gcd n.natAbs d.natAbs=g:=⟨_,rfl⟩
 have hg0:0 < g:=by rw [← hg];exact Nat.gcd_pos_of_pos_right _ (by omega)
 have hgd:dlen (g:Int)≤2000:=by rw [← hg];exact dlen_gcd n d 2000 (by decide) hd hdl
 rw [hg] at m1 m2
 have dx:dlen (n / (g:Int))≤2000:=dlen_div n g 2000 (by decide) hn (by rw [← hg];exact Int.ofNat_dvd_left.2 (Nat.gcd_dvd_left _ _))
 have dy:dlen (d / (g:Int))≤2000:=dlen_div d g 2000 (by decide) hdl (by rw [← hg];exact Int.ofNat_dvd_left.2 (Nat.gcd_dvd_right _ _))
 have e1:((itoaB (d / (g:Int))).toList == [49])=decide ((Rat.divInt n d).den=1):=by
   have:=text_dec (itoaB (d / (g:Int))) ⟨#[49]⟩
   rw [one_list] at this
   rw [this]
   refine decide_eq_decide.2 ⟨fun h=>?_,fun h=>?_⟩
   · have:=itoa_inj (h.trans itoa_one.symm);omega
   · rw [← m2,h];exact itoa_one
 have z1:=sItoa_size (n / (g:Int))
 have z2:=sItoa_size (d / (g:Int))
 have:=make3_w (itoaB n) (itoaB d) (itoaB (g:Int)) (itoaB (n / (g:Int))) (itoaB (d / (g:Int))) (itoaB (n % (g:Int))) (itoaB (d % (g:Int))) _ e1 (by omega) (by omega) (fun w R=>by
     have:=refGcd_any n d w R.env hn hdl
     rwa [hg] at this) (fun w R=>refDivMod_any n g w R.env (by omega) (by omega) (by omega)) (fun w R=>refDivMod_any d g w R.env (by omega) (by omega) (by omega)) w R
 refine this.mono fun e w' h=>⟨h.1.trans ?_,h.2⟩
 by_cases h1:(Rat.divInt n d).den=1
 · rw [decide_eq_true h1,if_pos rfl,ratB_int h1,m1]
 · rw [decide_eq_false h1,if_neg (by decide),ratB_more h1,m1,m2]
theorem parts3_whole (s:ByteArray) (r:Bool) (hs:s.size≤100000) (hno:∀ k (h:k < s.size),s[k]≠47) (h1:CR 51 #[.string s] (.bool r)) (w:World) (R:EnvR w) :
   Calls Tryz.prog 19 #[.string s] w (Ret w (.tuple #[.string s,.string ⟨#[49]⟩,.bool r])):=by
 have C1:=Lib.hid h1
 have HNO:=Lib.hid hno
 clear h1 hno
 have hb:=Below.refl w.heap.size w
 go_enter Tryz.func19,Tryz.ntmps19
 go_wp2
 go_loop [6,7] (fun at' i=>∃ k:Nat,k≤s.size∧i = .int .i64 k∧at' = .int .i64 (-1)) (fun _ i=>s.size - (intOf i).toNat)
 case atStart=>exact ⟨0,Nat.zero_le _,rfl,rfl⟩
 case round =>
   obtain ⟨k,hk,rfl,rfl⟩:=hrel
   by_cases hlt:k < s.size
   · have e1:((s[k].toNat:Int) == 47)=false:=byte_ne (d:=47) rfl (HNO.out k hlt)
     go_wp2
     go_round
     case rel=>exact ⟨k+1,by omega,by go_num,rfl⟩
     case measure=>simp [intOf];omega
   · go_wp2_with (go_at_call 51;(with_reducible refine (chain hb (C1.out _ (R.below hb))).mono ?_);clear hb;rintro e w1 ⟨rfl,hb⟩)
     go_ret3
     exact ⟨rfl,hb⟩
def atI (M k:Nat):Int:=if k≤M then -1 else M
theorem parts3_frac (s a b g:ByteArray) (M:Nat) (r1 r2 r:Bool) (o:Int) (hs:s.size≤100000) (hM:M < s.size) (h47:s[M]=47) (hno:∀ k (h:k < s.size),k < M→s[k]≠47) (ha:s.extract 0 M=a) (hbx:s.extract (M+1) s.size=b)
   (hr:r=(r1 && (r2 && (decide (0 < o) && (g.toList == [49]))))) (h1:CR 51 #[.string a] (.bool r1))
   (h2:CR 51 #[.string b] (.bool r2))
   (h3:r1=true→r2=true→CR 43 #[.string b,.string ⟨#[49]⟩] (.int .i64 o))
   (h4:r1=true→r2=true→0 < o→CR 52 #[.string a,.string b] (.string g)) (w:World) (R:EnvR w) :
   Calls Tryz.prog 19 #[.string s] w (Ret w (.tuple #[.string a,.string b,.bool r])):=by
 have C1:=Lib.hid h1
 have C2:=Lib.hid h2
 have C3:=Lib.hid h3
 have C4:=Lib.hid h4
 have HNO:=Lib.hid hno
 have HR:=Lib.hid hr
 have H47:=Lib.hid h47
 clear h1 h2 h3 h4 hno hr h47
 have hb:=Below.refl w.heap.size w
 have m1:(M:Int) < (s.size:Int):=by omega
 have m2:¬ (M:Int) < 0:=by omega
 have wM:IntKind.i64.wrap ((M:Int)+1)=((M+1:Nat):Int):=by rw [Int.natCast_add];exact IntWalk.i64_in _ (by omega)
 go_enter Tryz.func19,Tryz.ntmps19
 go_wp2
 go_loop [6,7] (fun at' i=>∃ k:Nat,k≤s.size∧i = .int .i64 k∧at' = .int .i64 (atI M k)) (fun _ i=>s.size - (intOf i).toNat)
 case atStart=>exact ⟨0,Nat.zero_le _,rfl,rfl⟩
 case round =>
   obtain ⟨k,hk,rfl,rfl⟩:=hrel
   by_cases hlt:k < s.size
   · rcases Nat.lt_trichotomy k M with h | h | h
     · have e1:((s[k].toNat:Int) == 47)=false:=byte_ne (d:=47) rfl (HNO.out k hlt h)
       have a1:atI M k = -1:=if_pos (by omega)
       have a2:atI M (k+1) = -1:=if_pos (by omega)
       rw [a1]
       go_wp2
       go_round
       case rel=>exact ⟨k+1,by omega,by go_num,by rw [a2]⟩
       case measure=>simp [intOf];omega
     · subst h
       have e1:((s[k].toNat:Int) == 47)=true:=byte_eq (d:=47) rfl H47.out
       have a1:atI k k = -1:=if_pos (Nat.le_refl _)
       have a2:atI k (k+1)=k:=if_neg (by omega)
       rw [a1]
       go_wp2
       go_round
       case rel=>exact ⟨k+1,by omega,by go_num,by rw [a2]⟩
       case measure=>simp [intOf];omega
     · have a1:atI M k=M:=if_neg (by omega)
       have a2:atI M (k+1)=M:=if_neg (by omega)
       rw [a1]
       cases e1:((s[k].toNat:Int) == 47) with
       | true =>
         go_wp2
         go_round
         case rel=>exact ⟨k+1,by omega,by go_num,by rw [a2]⟩
         case measure=>simp [intOf];omega
       | false =>
         go_wp2
         go_round
         case rel=>exact ⟨k+1,by omega,by go_num,by rw [a2]⟩
         case measure=>simp [intOf];omega
   · have hks:k=s.size:=by omega
     subst hks
     have a1:atI M s.size=M:=if_neg (by omega)
     rw [a1]
     have m3:(0:Int)≤(M:Int):=by omega
     have m4:(M:Int)≤(s.size:Int):=by omega
     have m5:((M+1:Nat):Int)≤(s.size:Int):=by omega
     go_upto_region 10 with fail
     go_quiet (fail)
     replace hb:=Below.drews hb nq
     cases r1 with
     | false =>
       go_wp2_with (go_at_call 51;with_reducible refine (chRA hb R C1).mono ?_;clear hb;rintro e w1 ⟨rfl,hb⟩)
       go_ret3
       exact ⟨congrArg Ending.returned (by rw [HR.out];rfl),hb⟩
     | true =>
       cases r2 with
       | false =>
         go_wp2_with ((go_at_call 51;first | with_reducible refine (chRA hb R C1).mono ?_ | with_reducible refine (chRA hb R C2).mono ?_);clear hb;rintro e w1 ⟨rfl,hb⟩)
         go_ret3
         exact ⟨congrArg Ending.returned (by rw [HR.out];rfl),hb⟩
       | true =>
         replace C3:=Lib.hid (C3.out rfl rfl)
         by_cases ho:0 < o
         · have hod:decide (0 < o)=true:=decide_eq_true ho
           replace C4:=Lib.hid (C4.out rfl rfl ho)
           go_wp2_with ((first | (go_at_call 51;first | with_reducible refine (chRA hb R C1).mono ?_ | with_reducible refine (chRA hb R C2).mono ?_) | (go_at_call 43;with_reducible refine (chRA hb R C3).mono ?_) | (go_at_call 52;with_reducible refine (chRA hb R C4).mono ?_));clear hb;rintro e w1 ⟨rfl,hb⟩)
           go_ret3
           exact ⟨congrArg Ending.returned (by rw [HR.out,hod];rfl),hb⟩
         · have hod:decide (0 < o)=false:=decide_eq_false ho
           go_wp2_with ((first | (go_at_call 51;first | with_reducible refine (chRA hb R C1).mono ?_ | with_reducible refine (chRA hb R C2).mono ?_) | (go_at_call 43;with_reducible refine (chRA hb R C3).mono ?_));clear hb;rintro e w1 ⟨rfl,hb⟩)
           go_ret3
           exact ⟨congrArg Ending.returned (by rw [HR.out,hod];rfl),hb⟩
theorem split47 {s:ByteArray} {a b:List UInt8} (h:s.data.toList=a ++ 47 :: b):s.extract 0 a.length=strOf a∧s.extract (a.length+1) s.size=strOf b∧∃ hk:a.length < s.size,s[a.length]=47:=by
 have hl:s.size=a.length+1+b.length:=by rw [size_len,h,List.length_append,List.length_cons];omega
 refine ⟨(str_split h).1,(str_split h).2,by omega,?_⟩
 have:=Lib.data_getElem? s a.length (by omega)
 rw [h] at this
 simpa using this.symm
theorem byte_at {s:ByteArray} {a b:List UInt8} (h:s.data.toList=a ++ 47 :: b) (hn:(47:UInt8) ∉ a):∀ k (hk:k < s.size),k < a.length→s[k]≠47:=fun k hk hka e=>by
 have:=Lib.data_getElem? s k hk
 rw [h,List.getElem?_append_left hka,e] at this
 exact hn (List.mem_of_getElem? this)
theorem byte_no {s:ByteArray} (hn:(47:UInt8) ∉ s.data.toList):∀ k (hk:k < s.size),s[k]≠47:=fun k hk e=>by
 have:=Lib.data_getElem? s k hk
 rw [e] at this
 exact hn (List.mem_of_getElem? this)
theorem cmp_one (y:Int) (hy:dlen y≤200) (w:World) (R:EnvR w) :
   Calls Tryz.prog 43 #[.string (itoaB y),.string ⟨#[49]⟩] w (Ret w (.int .i64 (y - 1).sign)):=by
 have:=refCompare_any y 1 w R.env (by omega) (by decide +kernel)
 rwa [show itoaB 1=⟨#[49]⟩ by decide +kernel] at this
theorem itoa_one3 (n:Nat):((itoaB (n:Int)).toList == [49])=decide (n=1):=by
 have e1:(itoaB (n:Int)).toList=Lib.itoa (n:Int):=Lib.toList_data _
 rw [e1]
 by_cases h:n=1
 · subst h;decide +kernel
 · rw [decide_eq_false h,beq_eq_false_iff_ne]
   intro e
   have:=itoaS_inj (x:=(n:Int)) (y:=1) (by rw [e];decide +kernel)
   omega
theorem parts_slash (s:ByteArray) (a b:List UInt8) (hs:s.size≤100000) (e:s.data.toList=a ++ 47 :: b) (hn:(47:UInt8) ∉ a) (x y:Int) (ha:strOf a=itoaB x) (hb:strOf b=itoaB y) (dx:dlen x≤200) (dy:dlen y≤200) (r:Bool) (hr:r=(decide (1 < y) && decide (Nat.gcd x.natAbs y.natAbs=1))) (w:World) (R:EnvR w) :
   Calls Tryz.prog 19 #[.string s] w (Ret w (.tuple #[.string (itoaB x),.string (itoaB y),.bool r])):=by
 obtain ⟨h1,h2,hM,h47⟩:=split47 e
 have hl:s.size=a.length+1+b.length:=by rw [size_len,e,List.length_append,List.length_cons];omega
 have r1:rightB a=true:=rightB_iff.2 ⟨x,by have:=congrArg (·.data.toList) ha;exact this,dx⟩
 have r2:rightB b=true:=rightB_iff.2 ⟨y,by have:=congrArg (·.data.toList) hb;exact this,dy⟩
 have k1:=fun w R=>right_tt r1 (by omega) w R
 have k2:=fun w R=>right_tt r2 (by omega) w R
 rw [ha] at k1 h1
 rw [hb] at k2 h2
 refine parts3_frac s (itoaB x) (itoaB y) (itoaB (Nat.gcd x.natAbs y.natAbs:Nat)) a.length true true r (y - 1).sign hs hM h47 (byte_at e hn) h1 h2 ?_ k1 k2 (fun _ _ w R=>cmp_one y dy w R) (fun _ _ _ w R=>refGcd_any x y w R.env (by omega) (by omega)) w R
 rw [hr,itoa_one3,Bool.true_and,Bool.true_and]
 congr 1
 rw [decide_eq_decide,Int.sign_pos_iff]
 omega
theorem parts_rat (q:Rat) (hq:RL q 200) (w:World) (R:EnvR w) :
   Calls Tryz.prog 19 #[.string (ratB q)] w (Ret w (.tuple #[.string (itoaB q.num),.string (itoaB q.den),.bool true])):=by
 have hz:=size_of_RL hq
 by_cases h:q.den=1
 · have e1:=ratB_int h
   have k:=parts3_whole (ratB q) true (by omega) (byte_no (by rw [e1];exact nos_itoa _)) (fun w R=>right_any _ w (by omega) true (by rw [e1];exact rightB_iff.2 ⟨q.num,rfl,hq.1⟩)) w R
   rw [e1] at k ⊢
   rw [h,show itoaB ((1:Nat):Int)=⟨#[49]⟩ by decide +kernel]
   exact k
 · have hd:=q.den_pos
   refine parts_slash (ratB q) (Lib.itoa q.num) (Lib.itoa q.den) (by omega) (ratS_frac h) (nos_itoa _) q.num q.den rfl rfl hq.1 hq.2 true ?_ w R
   have hr:Nat.gcd q.num.natAbs (q.den:Int).natAbs=1:=q.reduced
   rw [decide_eq_true hr,decide_eq_true (show (1:Int) < (q.den:Int) by omega)];rfl
theorem parts_wrong (s:ByteArray) (h:¬ IsRat s.data.toList) (hs:s.size≤100000):∃ a b,∀ (w:World) (_:EnvR w),
   Calls Tryz.prog 19 #[.string s] w (Ret w (.tuple #[.string a,.string b,.bool false])):=by
 rcases slash_split s.data.toList with hn | ⟨a,b,e,hn⟩
 · have hr:rightB s.data.toList=false:=by
     cases hr:rightB s.data.toList with
     | false=>rfl
     | true=>exact absurd ((isRat_nos hn).2 hr) h
   exact ⟨_,_,fun w R=>parts3_whole s false hs (byte_no hn) (fun w R=>right_any s w (by omega) false hr) w R⟩
 · cases hr:(rightB a && rightB b) with
   | true =>
     rw [Bool.and_eq_true] at hr
     obtain ⟨x,y,e1,e2,dx,dy,hi⟩:=split_right hr.1 hr.2
     refine ⟨_,_,fun w R=>parts_slash s a b hs e hn x y e1 e2 dx dy false ?_ w R⟩
     rw [e,hi hn] at h
     by_cases hy:1 < y
     · by_cases hg:Nat.gcd x.natAbs y.natAbs=1
       · refine absurd ⟨fun hx=>?_,hy,hg⟩ h
         rw [hx] at hg
         simp at hg
         omega
       · rw [decide_eq_false hg,Bool.and_false]
     · rw [decide_eq_false hy,Bool.false_and]
   | false =>
     obtain ⟨h1,h2,hM,h47⟩:=split47 e
     have hl:s.size=a.length+1+b.length:=by rw [size_len,e,List.length_append,List.length_cons];omega
     refine ⟨strOf a,strOf b,fun w R=>parts3_frac s (strOf a) (strOf b) ⟨#[]⟩ a.length (rightB a) (rightB b) false 0 hs hM h47 (byte_at e hn) h1 h2 ?_ (fun w R=>right_tt rfl (by omega) w R) (fun w R=>right_tt rfl (by omega) w R) (fun c1 c2=>?_) (fun c1 c2=>?_) w R⟩
     · rw [← Bool.and_assoc,hr,Bool.false_and]
     · rw [c1,c2] at hr;cases hr
     · rw [c1,c2] at hr;cases hr
def OfEnd3 (w:World) (a b:ByteArray) (e:Ending) (w':World):Prop:=
 ∃ B,e = .returned (.tuple #[.slice (some ⟨B,0,none⟩) 1 1,.int .i64 0])∧w'.heap[B]? = some (.cells #[.string a,.string b] 39 (0,0))∧Below w.heap.size w w'
theorem of3_bad (s a b:ByteArray) (h1:CR 19 #[.string s] (.tuple #[.string a,.string b,.bool false])) (w:World) (R:EnvR w) :
   Calls Tryz.prog 16 #[.string s] w (RetS w [] 2):=by
 have C1:=Lib.hid h1
 clear h1
 have hb:=Below.refl w.heap.size w
 go_enter Tryz.func16,Tryz.ntmps16
 go_wp2_with (go_at_call 19;with_reducible refine (chRA hb R C1).mono ?_;clear hb;rintro e w1 ⟨rfl,hb⟩)
 go_ret2
 exact RetS.none _ hb
theorem of3_minus (s a b:ByteArray) (h1:CR 19 #[.string s] (.tuple #[.string a,.string b,.bool true])) (h2:CR 49 #[.string a] (.int .i64 (-1))) (w:World) (R:EnvR w) :
   Calls Tryz.prog 16 #[.string s] w (RetS w [] 3):=by
 have C1:=Lib.hid h1
 have C2:=Lib.hid h2
 clear h1 h2
 have hb:=Below.refl w.heap.size w
 go_enter Tryz.func16,Tryz.ntmps16
 go_wp2_with ((first | (go_at_call 19;with_reducible refine (chRA hb R C1).mono ?_) | (go_at_call 49;with_reducible refine (chRA hb R C2).mono ?_));clear hb;rintro e w1 ⟨rfl,hb⟩)
 go_ret2
 exact RetS.none _ hb
theorem of3_zero (s a b:ByteArray) (e0:(a.toList == [48])=true) (h1:CR 19 #[.string s] (.tuple #[.string a,.string b,.bool true])) (h2:CR 49 #[.string a] (.int .i64 0)) (w:World) (R:EnvR w) :
   Calls Tryz.prog 16 #[.string s] w (RetS w [] 0):=by
 have C1:=Lib.hid h1
 have C2:=Lib.hid h2
 clear h1 h2
 have hb:=Below.refl w.heap.size w
 go_enter Tryz.func16,Tryz.ntmps16
 go_wp2_with ((first | (go_at_call 19;with_reducible refine (chRA hb R C1).mono ?_) | (go_at_call 49;with_reducible refine (chRA hb R C2).mono ?_));clear hb;rintro e w1 ⟨rfl,hb⟩)
 go_ret2
 exact RetS.none _ hb
theorem of3_sq (s a b p r f:ByteArray) (e0:(a.toList == [48])=false) (h1:CR 19 #[.string s] (.tuple #[.string a,.string b,.bool true])) (h2:CR 49 #[.string a] (.int .i64 1)) (h3:CR 44 #[.string a,.string b] (.string p)) (h4:CR 50 #[.string p] (.tuple #[.string r,.bool true])) (h5:CR 36 #[.string r,.string b] (.string f)) (w:World) (R:EnvR w) :
   Calls Tryz.prog 16 #[.string s] w (OfEnd3 w f ⟨#[49]⟩):=by
 have C1:=Lib.hid h1
 have C2:=Lib.hid h2
 have C3:=Lib.hid h3
 have C4:=Lib.hid h4
 have C5:=Lib.hid h5
 clear h1 h2 h3 h4 h5
 have hb:=Below.refl w.heap.size w
 go_enter Tryz.func16,Tryz.ntmps16
 go_wp2_with ((first | (go_at_call 19;with_reducible refine (chRA hb R C1).mono ?_) | (go_at_call 49;with_reducible refine (chRA hb R C2).mono ?_) | (go_at_call 44;with_reducible refine (chRA hb R C3).mono ?_) | (go_at_call 50;with_reducible refine (chRA hb R C4).mono ?_) | (go_at_call 36;with_reducible refine (chRA hb R C5).mono ?_));clear hb;rintro e w1 ⟨rfl,hb⟩)
 go_ret2
 exact ⟨_,rfl,World.alloc_heap_new _ _,hb.alloc hb.size _⟩
theorem of3_long (s a b p r:ByteArray) (e0:(a.toList == [48])=false) (hl:200 < (p.size:Int)) (h1:CR 19 #[.string s] (.tuple #[.string a,.string b,.bool true])) (h2:CR 49 #[.string a] (.int .i64 1)) (h3:CR 44 #[.string a,.string b] (.string p)) (h4:CR 50 #[.string p] (.tuple #[.string r,.bool false])) (w:World) (R:EnvR w) :
   Calls Tryz.prog 16 #[.string s] w (RetS w [] 4):=by
 have C1:=Lib.hid h1
 have C2:=Lib.hid h2
 have C3:=Lib.hid h3
 have C4:=Lib.hid h4
 clear h1 h2 h3 h4
 have hb:=Below.refl w.heap.size w
 go_enter Tryz.func16,Tryz.ntmps16
 go_wp2_with ((first | (go_at_call 19;with_reducible refine (chRA hb R C1).mono ?_) | (go_at_call 49;with_reducible refine (chRA hb R C2).mono ?_) | (go_at_call 44;with_reducible refine (chRA hb R C3).mono ?_) | (go_at_call 50;with_reducible refine (chRA hb R C4).mono ?_));clear hb;rintro e w1 ⟨rfl,hb⟩)
 go_ret2
 exact RetS.none _ hb
theorem of3_root (s a b p r f:ByteArray) (e0:(a.toList == [48])=false) (hl:¬ 200 < (p.size:Int)) (h1:CR 19 #[.string s] (.tuple #[.string a,.string b,.bool true])) (h2:CR 49 #[.string a] (.int .i64 1)) (h3:CR 44 #[.string a,.string b] (.string p)) (h4:CR 50 #[.string p] (.tuple #[.string r,.bool false])) (h5:CR 36 #[.string ⟨#[49]⟩,.string b] (.string f)) (w:World) (R:EnvR w) :
   Calls Tryz.prog 16 #[.string s] w (OfEnd3 w f p):=by
 have C1:=Lib.hid h1
 have C2:=Lib.hid h2
 have C3:=Lib.hid h3
 have C4:=Lib.hid h4
 have C5:=Lib.hid h5
 clear h1 h2 h3 h4 h5
 have hb:=Below.refl w.heap.size w
 go_enter Tryz.func16,Tryz.ntmps16
 go_wp2_with ((first | (go_at_call 19;with_reducible refine (chRA hb R C1).mono ?_) | (go_at_call 49;with_reducible refine (chRA hb R C2).mono ?_) | (go_at_call 44;with_reducible refine (chRA hb R C3).mono ?_) | (go_at_call 50;with_reducible refine (chRA hb R C4).mono ?_) | (go_at_call 36;with_reducible refine (chRA hb R C5).mono ?_));clear hb;rintro e w1 ⟨rfl,hb⟩)
 go_ret2
 exact ⟨_,rfl,World.alloc_heap_new _ _,hb.alloc hb.size _⟩
theorem sq_cop {a b s:Nat} (hg:Nat.gcd a b=1) (h:s*s=a*b):Nat.gcd s a*Nat.gcd s a=a:=by
 have e1:Nat.gcd (s ^ 2) (a ^ 2)=Nat.gcd s a ^ 2:=Nat.pow_gcd_pow ..
 rw [Nat.pow_two,Nat.pow_two,Nat.pow_two,h,Nat.gcd_mul_left,Nat.gcd_comm b a,hg,Nat.mul_one] at e1
 exact e1.symm
theorem sqN_mul {a b:Nat} (hg:Nat.gcd a b=1):sqN (a*b)=(sqN a && sqN b):=by
 rw [Bool.eq_iff_iff,Bool.and_eq_true,sqN_iff,sqN_iff,sqN_iff]
 constructor
 · rintro ⟨s,hs⟩
   exact ⟨⟨_,sq_cop hg hs⟩,⟨_,sq_cop (by rw [Nat.gcd_comm];exact hg) (by rw [hs,Nat.mul_comm])⟩⟩
 · rintro ⟨⟨x,rfl⟩,y,rfl⟩
   exact ⟨x*y,by rw [Nat.mul_mul_mul_comm]⟩
theorem root_mul {a b:Nat} (ha:sqN a=true) (hb:sqN b=true):rootN (a*b)=rootN a*rootN b:=by
 obtain ⟨x,rfl⟩:=sqN_iff.1 ha
 obtain ⟨y,rfl⟩:=sqN_iff.1 hb
 have h:∀ s,rootN (s*s)=s:=fun s=>rootN_eq ⟨Nat.le_refl _,Nat.mul_self_lt_mul_self (Nat.lt_succ_self s)⟩
 rw [Nat.mul_mul_mul_comm,h,h,h]
theorem rootQ_of {n d:Nat} (hd:0 < d) (h1:sqN n=true) (h2:sqN d=true):Rat.divInt (rootN (n*d):Nat) (d:Nat)=Rat.divInt (rootN n:Nat) (rootN d:Nat):=by
 rw [root_mul h1 h2]
 unfold sqN at h2
 rw [decide_eq_true_iff] at h2
 obtain ⟨s,hs⟩:∃ s,rootN d=s:=⟨_,rfl⟩
 rw [hs] at h2 ⊢
 have hs0:s≠0:=by rintro rfl;omega
 rw [← h2,Int.natCast_mul,Int.natCast_mul]
 exact Rat.divInt_mul_right (by omega)
theorem size_nat (n:Nat):(itoaB (n:Int)).size=dlen (n:Int):=by
 have h:=itoa_len (n:Int)
 rw [if_neg (by omega)] at h
 rw [size_len]
 show (Lib.itoa (n:Int)).length=_
 omega
theorem long_one (t:Tm):longT [t] = !okT t:=by unfold longT;simp
theorem RetS.of3 {w:World} {t:Tm} {a b:ByteArray} (ha:a=ratB t.1) (hb:b=itoaB (t.2:Int)) {e:Ending} {w':World} (h:OfEnd3 w a b e w'):RetS w [t] 0 e w':=by
 obtain ⟨B,rfl,hB,hk⟩:=h
 subst ha hb
 exact RetS.mk _ _ _ rfl (by decide) (by decide) (HasT.one hB) hk
theorem of3_rat (q:Rat) (hq:RL q 200) (w:World) (R:EnvR w) :
   Calls Tryz.prog 16 #[.string (ratB q)] w (RetS w (ofT q).1 (ofT q).2):=by
 have h1:=parts_rat q hq
 have h2:∀ w,EnvR w→_:=fun w (_:EnvR w)=>refSign_any q.num w
 unfold ofT
 by_cases hn:q.num < 0
 · rw [if_pos hn]
   rw [Int.sign_eq_neg_one_of_neg hn] at h2
   exact of3_minus _ _ _ h1 h2 w R
 · rw [if_neg hn]
   by_cases h0:q=0
   · rw [if_pos h0]
     subst h0
     exact of3_zero _ _ _ (by decide +kernel) h1 h2 w R
   · rw [if_neg h0]
     have hne:q.num≠0:=fun e=>h0 (Rat.num_eq_zero.1 e)
     have hp:0 < q.num:=by omega
     have hd:=q.den_pos
     have e0:((itoaB q.num).toList == [48])=false:=by
       have e1:(itoaB q.num).toList=Lib.itoa q.num:=Lib.toList_data _
       rw [e1,beq_eq_false_iff_ne]
       intro e
       exact hne (itoaS_inj (x:=q.num) (y:=0) (by rw [e];decide +kernel))
     rw [Int.sign_eq_one_of_pos hp] at h2
     obtain ⟨n,hnn⟩:∃ n:Nat,q.num=n:=⟨q.num.toNat,by omega⟩
     have hg:Nat.gcd n q.den=1:=by have:=q.reduced;rw [hnn] at this;exact this
     have dn:dlen (n:Int)≤200:=by rw [← hnn];exact hq.1
     have dp:dlen ((n*q.den:Nat):Int)≤400:=dlen_natc n q.den 200 200 (by decide) dn hq.2
     have h3:=fun w (R:EnvR w)=>refMul_any q.num (q.den:Int) w R.env (by have:=hq.1;omega) (by have:=hq.2;omega)
     rw [hnn,← Int.natCast_mul] at h3
     have h4:=fun w R=>square_any (n*q.den) (by omega) w R
     have hsq:(sqB q.num && sqB q.den)=sqN (n*q.den):=by rw [hnn,sqB_nat,sqB_nat,sqN_mul hg]
     have hrt:rootT q=if sqN (n*q.den) then (rootQ q,1) else (Rat.divInt 1 q.den,n*q.den):=by
       unfold rootT
       rw [hsq,hnn];rfl
     rw [hnn] at h1 h2 e0
     cases hs:sqN (n*q.den) with
     | true =>
       rw [hs] at h4 hrt hsq
       rw [if_pos rfl] at hrt
       rw [Bool.and_eq_true] at hsq
       obtain ⟨q1,q2⟩:=rootQ_parts hsq.1 hsq.2
       rw [hnn,sqB_nat,sqB_nat] at hsq
       have hfit:RL (rootQ q) 200:=⟨by rw [q1];exact rootN_dlen _ 200 (by decide) (by rw [Int.toNat_of_nonneg (by omega)];exact hq.1),by rw [q2];exact rootN_dlen _ 200 (by decide) hq.2⟩
       have hL:longT [rootT q]=false:=by rw [hrt,long_one,okT];show (!(rlB (rootQ q) 200 && decide (dlen ((1:Nat):Int)≤200)))=false;rw [rlB_iff.2 hfit];decide +kernel
       rw [if_neg (by rw [hL];decide),hrt]
       have h5:=fun w R=>make3_any (rootN (n*q.den):Int) (q.den:Int) (by omega) (by have:=rootN_dlen _ 400 (by decide) dp;omega) (by have:=hq.2;omega) w R
       rw [rootQ_of hd hsq.1 hsq.2] at h5
       refine (of3_sq _ _ _ _ _ _ e0 h1 h2 h3 h4 h5 w R).mono fun e w' h=>?_
       exact RetS.of3 (t:=(rootQ q,1)) (by show ratB _=ratB (Rat.divInt _ _);rw [hnn];rfl) (by show _=itoaB ((1:Nat):Int);decide +kernel) h
     | false =>
       rw [hs] at h4 hrt
       rw [if_neg (by decide)] at hrt
       by_cases hl:dlen ((n*q.den:Nat):Int)≤200
       · have hL:longT [rootT q]=false:=by rw [hrt,long_one,okT];show (!(rlB (Rat.divInt 1 q.den) 200 && decide (dlen ((n*q.den:Nat):Int)≤200)))=false;rw [rlB_iff.2 (rl_inv q.den 200 (by decide) hd hq.2),decide_eq_true hl];rfl
         rw [if_neg (by rw [hL];decide),hrt]
         have h5:=fun w R=>make3_any 1 (q.den:Int) (by omega) (by decide +kernel) (by have:=hq.2;omega) w R
         rw [show itoaB 1=⟨#[49]⟩ by decide +kernel] at h5
         refine (of3_root _ _ _ _ _ _ e0 (by rw [size_nat];omega) h1 h2 h3 h4 h5 w R).mono fun e w' h=>?_
         exact RetS.of3 (t:=(Rat.divInt 1 q.den,n*q.den)) rfl rfl h
       · have hL:longT [rootT q]=true:=by rw [hrt,long_one,okT];show (!(rlB (Rat.divInt 1 q.den) 200 && decide (dlen ((n*q.den:Nat):Int)≤200)))=true;rw [decide_eq_false hl,Bool.and_false];rfl
         rw [if_pos hL]
         exact of3_long _ _ _ _ _ e0 (by rw [size_nat];omega) h1 h2 h3 h4 w R
theorem of3_wrong (s:ByteArray) (h:¬ IsRat s.data.toList) (hs:s.size≤100000) (w:World) (R:EnvR w):Calls Tryz.prog 16 #[.string s] w (RetS w [] 2):=by
 obtain ⟨a,b,hp⟩:=parts_wrong s h hs
 exact of3_bad s a b hp w R
theorem same_self (p q:Option Addr) (c d:Nat) (ts:List Tm) (hm:ts.length≤1000) (w:World) (h1:HasT w p ts) (h2:HasT w q ts) :
   Calls Tryz.prog 17 #[.slice p ts.length c,.slice q ts.length d] w (Ret w (.bool true)):=by
 have:=same_any p q ts.length c ts.length d ts ts rfl rfl hm hm w h1 h2
 rwa [decide_eq_true rfl] at this
theorem hasTq {q:Rat} {w:World} {b:Nat} {T:TypeId} (h:w.heap[b]? = some (.cells #[.string (ratB q),.string ⟨#[49]⟩] T (0,0))):HasT w (some ⟨b,0,none⟩) [(q,1)]:=by
 rw [show (⟨#[49]⟩:ByteArray)=itoaB ((1:Nat):Int) by decide +kernel] at h
 exact HasT.one h
theorem lawSR_long (s:ByteArray) (hs:450 < (s.size:Int)) (w:World) (R:EnvS w) :
   Calls Tryz.prog 3 #[.string s] w (Ret w (.bool true)):=by
 have c0:∀ w,EnvS w→Calls Tryz.prog 13 #[] w (Ret w (.bool true)):=by
   intro w R
   exact known3_any w R
 have C0:=Lib.hid c0
 clear c0
 have hb:=Below.refl w.heap.size w
 go_enter Tryz.func3,Tryz.ntmps3
 go_wp2_with (go_at_call 13;(with_reducible refine (chain hb (C0.out _ (EnvS.below R hb))).mono ?_);clear hb;rintro e w1 ⟨rfl,hb⟩)
 go_ret
 exact ⟨rfl,hb⟩
theorem lawSR_wrong (s a b:ByteArray) (ts:List Tm) (v:Int) (hs:¬ 450 < (s.size:Int)) (hm:ts.length≤1000) (h1:∀ w,EnvR w→Calls Tryz.prog 14 #[.string s] w (RetS w ts v)) (h2:∀ w,EnvR w→Calls Tryz.prog 15 #[.string s] w (RetS w [] 2)) (h3:∀ w,EnvR w→Calls Tryz.prog 16 #[.string s] w (RetS w ts v)) (h4:CR 19 #[.string s] (.tuple #[.string a,.string b,.bool false])) (w:World) (R:EnvS w) :
   Calls Tryz.prog 3 #[.string s] w (Ret w (.bool true)):=by
 have c0:∀ w,EnvS w→Calls Tryz.prog 13 #[] w (Ret w (.bool true)):=by
   intro w R
   exact known3_any w R
 have C0:=Lib.hid c0
 clear c0
 have C1:=Lib.hid h1
 have C2:=Lib.hid h2
 have C3:=Lib.hid h3
 have C4:=Lib.hid h4
 have HM:=Lib.hid hm
 clear h1 h2 h3 h4 hm
 have hb:=Below.refl w.heap.size w
 go_enter Tryz.func3,Tryz.ntmps3
 go_upto_region 4 with (first | (go_at_call 13;(with_reducible refine (chain hb (C0.out _ (EnvS.below R hb))).mono ?_);clear hb;rintro e w1 ⟨rfl,hb⟩) | (go_at_call 14;((with_reducible refine (chainS hb (C1.out _ (R.toEnvR.below hb))).mono ?_);clear hb;rintro e w1 ⟨p,n,c,rfl,rfl,_,_,hTa,hk,hb⟩;clear hk)))
 go_upto_region 5 with (go_at_call 15;((with_reducible refine (chainS hb (C2.out _ (R.toEnvR.below hb))).mono ?_);clear hb;rintro e w2 ⟨p2,n2,c2,rfl,hn2,_,_,hTb,hk,hb⟩;replace hTa:=hTa.below hk;clear hk;obtain rfl:n2=0:=hn2))
 go_upto_region 6 with (go_at_call 16;((with_reducible refine (chainS hb (C3.out _ (R.toEnvR.below hb))).mono ?_);clear hb;rintro e w3 ⟨p3,n3,c3,rfl,rfl,_,_,hTc,hk,hb⟩;replace hTa:=hTa.below hk;replace hTb:=hTb.below hk;clear hk))
 go_upto_region 8 with (first | (go_at_call 18;((with_reducible refine (chainL hb (plain_any _ _ _ ts rfl HM.out _ hTa)).mono ?_);clear hb;rintro e w4 ⟨p4,n4,c4,rfl,rfl,_,hQ,hk,hb⟩;replace hTb:=hTb.below hk;replace hTc:=hTc.below hk;clear hk)) | (go_at_call 17;(with_reducible refine (zK hb (same_self _ _ _ _ ts HM.out _ hQ hTc)).mono ?_);clear hb;rintro e w5 ⟨rfl,hk,hb⟩;replace hTb:=hTb.below hk;clear hk hQ hTa hTc))
 go_wp2_with (first | (go_at_call 19;(with_reducible refine (zK hb (C4.out _ (R.toEnvR.below hb))).mono ?_);clear hb;rintro e w6 ⟨rfl,hk,hb⟩;replace hTb:=hTb.below hk;clear hk))
 go_ret
 exact ⟨rfl,hb⟩
theorem lawSR_zero (s a b:ByteArray) (ts:List Tm) (v:Int) (hs:¬ 450 < (s.size:Int)) (hm:ts.length≤1000) (e0:(s.toList == [48])=true) (h1:∀ w,EnvR w→Calls Tryz.prog 14 #[.string s] w (RetS w ts v)) (h2:∀ w,EnvR w→Calls Tryz.prog 15 #[.string s] w (RetS w [] 0)) (h3:∀ w,EnvR w→Calls Tryz.prog 16 #[.string s] w (RetS w ts v)) (h4:CR 19 #[.string s] (.tuple #[.string a,.string b,.bool true])) (w:World) (R:EnvS w) :
   Calls Tryz.prog 3 #[.string s] w (Ret w (.bool true)):=by
 have c0:∀ w,EnvS w→Calls Tryz.prog 13 #[] w (Ret w (.bool true)):=by
   intro w R
   exact known3_any w R
 have C0:=Lib.hid c0
 clear c0
 have C1:=Lib.hid h1
 have C2:=Lib.hid h2
 have C3:=Lib.hid h3
 have C4:=Lib.hid h4
 have HM:=Lib.hid hm
 clear h1 h2 h3 h4 hm
 have hb:=Below.refl w.heap.size w
 go_enter Tryz.func3,Tryz.ntmps3
 go_upto_region 4 with (first | (go_at_call 13;(with_reducible refine (chain hb (C0.out _ (EnvS.below R hb))).mono ?_);clear hb;rintro e w1 ⟨rfl,hb⟩) | (go_at_call 14;((with_reducible refine (chainS hb (C1.out _ (R.toEnvR.below hb))).mono ?_);clear hb;rintro e w1 ⟨p,n,c,rfl,rfl,_,_,hTa,hk,hb⟩;clear hk)))
 go_upto_region 5 with (go_at_call 15;((with_reducible refine (chainS hb (C2.out _ (R.toEnvR.below hb))).mono ?_);clear hb;rintro e w2 ⟨p2,n2,c2,rfl,hn2,_,_,hTb,hk,hb⟩;replace hTa:=hTa.below hk;clear hk;obtain rfl:n2=0:=hn2))
 go_upto_region 6 with (go_at_call 16;((with_reducible refine (chainS hb (C3.out _ (R.toEnvR.below hb))).mono ?_);clear hb;rintro e w3 ⟨p3,n3,c3,rfl,rfl,_,_,hTc,hk,hb⟩;replace hTa:=hTa.below hk;replace hTb:=hTb.below hk;clear hk))
 go_upto_region 8 with (first | (go_at_call 18;((with_reducible refine (chainL hb (plain_any _ _ _ ts rfl HM.out _ hTa)).mono ?_);clear hb;rintro e w4 ⟨p4,n4,c4,rfl,rfl,_,hQ,hk,hb⟩;replace hTb:=hTb.below hk;replace hTc:=hTc.below hk;clear hk)) | (go_at_call 17;(with_reducible refine (zK hb (same_self _ _ _ _ ts HM.out _ hQ hTc)).mono ?_);clear hb;rintro e w5 ⟨rfl,hk,hb⟩;replace hTb:=hTb.below hk;clear hk hQ hTa hTc))
 go_wp2_with (first | (go_at_call 19;(with_reducible refine (zK hb (C4.out _ (R.toEnvR.below hb))).mono ?_);clear hb;rintro e w6 ⟨rfl,hk,hb⟩;replace hTb:=hTb.below hk;clear hk))
 go_ret
 exact ⟨rfl,hb⟩
theorem lawSR_rat (s a b:ByteArray) (ts:List Tm) (v:Int) (hs:¬ 450 < (s.size:Int)) (hm:ts.length≤1000) (q:Rat) (hq:s=ratB q) (e0:(s.toList == [48])=false) (h1:∀ w,EnvR w→Calls Tryz.prog 14 #[.string s] w (RetS w ts v)) (h2:∀ w,EnvR w→Calls Tryz.prog 15 #[.string s] w (RetS w [(q,1)] 0)) (h3:∀ w,EnvR w→Calls Tryz.prog 16 #[.string s] w (RetS w ts v)) (h4:CR 19 #[.string s] (.tuple #[.string a,.string b,.bool true])) (w:World) (R:EnvS w) :
   Calls Tryz.prog 3 #[.string s] w (Ret w (.bool true)):=by
 subst hq
 have c0:∀ w,EnvS w→Calls Tryz.prog 13 #[] w (Ret w (.bool true)):=by
   intro w R
   exact known3_any w R
 have C0:=Lib.hid c0
 clear c0
 have C1:=Lib.hid h1
 have C2:=Lib.hid h2
 have C3:=Lib.hid h3
 have C4:=Lib.hid h4
 have HM:=Lib.hid hm
 clear h1 h2 h3 h4 hm
 have hb:=Below.refl w.heap.size w
 go_enter Tryz.func3,Tryz.ntmps3
 go_upto_region 4 with (first | (go_at_call 13;(with_reducible refine (chain hb (C0.out _ (EnvS.below R hb))).mono ?_);clear hb;rintro e w1 ⟨rfl,hb⟩) | (go_at_call 14;((with_reducible refine (chainS hb (C1.out _ (R.toEnvR.below hb))).mono ?_);clear hb;rintro e w1 ⟨p,n,c,rfl,rfl,_,_,hTa,hk,hb⟩;clear hk)))
 go_upto_region 5 with (go_at_call 15;((with_reducible refine (chainS hb (C2.out _ (R.toEnvR.below hb))).mono ?_);clear hb;rintro e w2 ⟨p2,n2,c2,rfl,hn2,_,_,hTb,hk,hb⟩;replace hTa:=hTa.below hk;clear hk;obtain rfl:n2=1:=hn2))
 go_upto_region 6 with (go_at_call 16;((with_reducible refine (chainS hb (C3.out _ (R.toEnvR.below hb))).mono ?_);clear hb;rintro e w3 ⟨p3,n3,c3,rfl,rfl,_,_,hTc,hk,hb⟩;replace hTa:=hTa.below hk;replace hTb:=hTb.below hk;clear hk))
 go_upto_region 8 with (first | (go_at_call 18;((with_reducible refine (chainL hb (plain_any _ _ _ ts rfl HM.out _ hTa)).mono ?_);clear hb;rintro e w4 ⟨p4,n4,c4,rfl,rfl,_,hQ,hk,hb⟩;replace hTb:=hTb.below hk;replace hTc:=hTc.below hk;clear hk)) | (go_at_call 17;(with_reducible refine (zK hb (same_self _ _ _ _ ts HM.out _ hQ hTc)).mono ?_);clear hb;rintro e w5 ⟨rfl,hk,hb⟩;replace hTb:=hTb.below hk;clear hk hQ hTa hTc))
 go_wp2_with (first | (go_at_call 19;(with_reducible refine (zK hb (C4.out _ (R.toEnvR.below hb))).mono ?_);clear hb;rintro e w6 ⟨rfl,hk,hb⟩;replace hTb:=hTb.below hk;clear hk) | (go_at_call 18;((with_reducible refine (chainL hb (plain_any _ 1 _ [(q,1)] rfl (by decide) _ hTb)).mono ?_);clear hb;rintro e w7 ⟨p7,n7,c7,rfl,hn7,_,hQ2,hk,hb⟩;obtain rfl:n7=1:=hn7;clear hk)) | (go_at_call 17;refine calls_alloc1 (fun wq hq hbq=>?_);have hb2:=hb.trans (hbq.mono hb.size);(with_reducible refine (zK hb2 (same1 _ _ _ _ (q,1) _ (hQ2.below hbq) (hasTq hq))).mono ?_);clear hb hb2;rintro e w8 ⟨rfl,hk,hb⟩))
 go_ret
 exact ⟨rfl,hb⟩
theorem ofT_len (q:Rat):(ofT q).1.length≤1000:=by
 unfold ofT
 split
 · show 0≤1000;omega
 · split
   · show 0≤1000;omega
   · split
     · show 0≤1000;omega
     · show 1≤1000;omega
theorem lawSRoots (s:ByteArray) (w:World) (R:EnvS w) :
   Calls Tryz.prog 3 #[.string s] w (Ret w (.bool true)):=by
 by_cases hs:450 < (s.size:Int)
 · exact lawSR_long s hs w R
 · by_cases h:IsRat s.data.toList
   · obtain ⟨q,e,hq⟩:=h
     have es:s=ratB q:=dat_inj e
     by_cases h0:q=0
     · have hF:=from_rat q hq
       rw [if_pos h0] at hF
       rw [es] at hs ⊢
       exact lawSR_zero (ratB q) _ _ _ _ hs (ofT_len q) (by rw [ratB_eq_zero];simpa using h0) (of_rat q hq) hF (of3_rat q hq) (parts_rat q hq) w R
     · have hF:=from_rat q hq
       rw [if_neg h0] at hF
       rw [es] at hs ⊢
       exact lawSR_rat (ratB q) _ _ _ _ hs (ofT_len q) q rfl (by rw [ratB_eq_zero];simpa using h0) (of_rat q hq) hF (of3_rat q hq) (parts_rat q hq) w R
   · obtain ⟨a,b,hp⟩:=parts_wrong s h (by omega)
     exact lawSR_wrong s a b [] 2 hs (by decide) (of_wrong s h (by omega)) (from_wrong s h (by omega)) (of3_wrong s h (by omega)) hp w R
end Go.Proofs.YtpphjnekkjeacaaGreatDoor.Kl
