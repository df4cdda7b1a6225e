import Derived.Test.YtpphjnekkjeacaaGreatDoorKlSRootsSIZ
import Derived.Test.YtpphjnekkjeacaaGreatDoorKlSRootsShB
namespace Go.Proofs.YtpphjnekkjeacaaGreatDoor.Kl
open Go Go.RowKit
set_option maxRecDepth 100000
set_option maxHeartbeats 8000000
theorem builder_below {T e:TypeId} {B b:Nat} {bs:List Value} {w w':World} (h:Lib.IsBuilderF T e B b bs w) (hb:Below w.heap.size w w'):Lib.IsBuilderF T e B b bs w':=by
 have hg:w.grownBy w' none:=⟨hb.os,hb.tape,hb.output,hb.size,fun k hk _=>hb.block k hk⟩
 have key:∀ p,Lib.BuilderAtF T e B b p bs w→Lib.BuilderAtF T e B b p bs w':=fun p hp=>by
   have hlt:=hp.lt
   obtain ⟨hB,v,hbk,hown,hne⟩:=hp
   exact ⟨hB,v,(hb.block b hlt).trans hbk,hown.kept hg (by cases v.ownBlock <;> simp),hne⟩
 exact h.elim (fun x=>.inl (key _ x)) (fun x=>.inr (key _ x))
def preS (first:Bool) (f:Rat):ByteArray:=if f.num < 0 then (if first then ⟨#[45]⟩ else ⟨#[32,45,32]⟩) else (if first then ⟨#[]⟩ else ⟨#[32,43,32]⟩)
def textL (first:Bool):List Tm→List UInt8
 | [] => []
 | t :: r=>(preS first t.1 ++ termS t).data.toList ++ textL false r
theorem textL_snoc : ∀ (l:List Tm) (f:Bool) (t:Tm),textL f (l ++ [t])=textL f l ++ (preS (f && l.isEmpty) t.1 ++ termS t).data.toList
 | [],f,t=>by show _ ++ textL false []=_;simp [textL]
 | u :: r,f,t=>by
   show _ ++ textL false (r ++ [t])=(_ ++ textL false r) ++ _
   rw [textL_snoc r false t,List.append_assoc]
   simp
def plusS (k:Nat):ByteArray:=if k=0 then ⟨#[]⟩ else ⟨#[32,43,32]⟩
def minusS (k:Nat):ByteArray:=if k=0 then ⟨#[45]⟩ else ⟨#[32,45,32]⟩
theorem preS_size (b:Bool) (f:Rat):(preS b f).size≤3:=by
 unfold preS
 cases b <;> (split <;> decide)
theorem termS_size (t:Tm) (h1:RL t.1 200) (h2:dlen (t.2:Int)≤200):(termS t).size≤700:=by
 have z1:=sItoa_size (t.2:Int)
 have z2:=size_of_RL (h1.abs)
 have e1:(sqrtS t.2).size=5+(itoaB (t.2:Int)).size+1:=by unfold sqrtS;rw [ByteArray.size_append,ByteArray.size_append];rfl
 unfold termS
 split
 · omega
 · split
   · omega
   · rw [ByteArray.size_append,ByteArray.size_append,e1]
     show (ratB t.1.abs).size+1+_≤_
     omega
theorem textL_len : ∀ (l:List Tm) (f:Bool),(∀ t ∈ l,RL t.1 200∧dlen (t.2:Int)≤200)→(textL f l).length≤l.length*703
 | [],f,_=>Nat.zero_le _
 | t :: r,f,h=>by
   have ih:=textL_len r false (fun u hu=>h u (by simp [hu]))
   have z1:=preS_size f t.1
   have z2:=termS_size t (h t (by simp)).1 (h t (by simp)).2
   show (_ ++ textL false r).length≤_
   rw [List.length_append,← size_len,ByteArray.size_append,List.length_cons]
   omega
theorem text_some (p:Option Addr) (n c:Nat) (ts:List Tm) (hn:n=ts.length) (hm:n≤40) (hn0:0 < n) (hf:∀ t ∈ ts,RL t.1 200∧dlen (t.2:Int)≤200) (w:World) (R:EnvR w) (h:HasT w p ts) (h1:∀ w',Below w.heap.size w w'→Calls Tryz.prog 61 #[.slice p n c] w' fun e w'' => e = .returned (.int .i64 0)∧Below w'.heap.size w' w'') :
   Calls Tryz.prog 38 #[.slice p n c] w (Ret w (.tuple #[.string (strOf (textL true ts)),.int .i64 0])):=by
 have K1:=Lib.hid h1
 have H:=Lib.hid h
 have HN:=Lib.hid hn
 have HF:=Lib.hid hf
 have hb:=Below.refl w.heap.size w
 have e0:((n:Int) == 0)=false:=by simp only [beq_eq_false_iff_ne,ne_eq];omega
 clear h1 h hn hf
 go_enter Tryz.func38,Tryz.ntmps38
 go_upto_region 8 with (go_at_call 61;(with_reducible refine (chain hb (K1.out _ hb)).mono ?_);clear hb;rintro e w1 ⟨rfl,hb⟩)
 have hbu:=Lib.IsBuilderF.of (Lib.fresh_isBuilder 124 5 w1)
 have hbB:=Below.refl w1.heap.size w1
 replace hbB:=hbB.alloc (Nat.le_refl _) (Obj.cells #[Value.pointer none,Value.slice none 0 0] 124)
 have hbw:=hb
 obtain ⟨wz,hwz⟩:∃ wz,w1.alloc (Obj.cells #[Value.pointer none,Value.slice none 0 0] 124)=wz:=⟨_,rfl⟩
 rw [hwz] at hbu hbB ⊢
 have hlt:w1.heap.size < wz.heap.size:=by rw [← hwz];simp
 clear hwz hb
 obtain ⟨B,hB⟩:∃ B,w1.heap.size=B:=⟨_,rfl⟩
 rw [hB] at hbu hbB hlt ⊢
 have hwB:w.heap.size≤B:=by rw [← hB];exact hbw.size
 have hbw2:Below w.heap.size w wz:=hbw.trans (hbB.mono hwB)
 have HBW:=Lib.hid hbw
 clear hbw hbB hB
 go_wp2
 go_loopw [5,6,21] (fun pl mi i wr=>∃ k:Nat,k≤n∧i = .int .i64 k∧pl = .string (plusS k)∧mi = .string (minusS k)∧Lib.IsBuilderF 124 5 B B (Lib.byteCells (textL true (ts.take k))) wr∧B < wr.heap.size∧Below w.heap.size w wr) (fun _ _ i _=>n - (intOf i).toNat)
 case atStart=>exact ⟨0,Nat.zero_le _,rfl,rfl,rfl,hbu,hlt,hbw2⟩
 case round =>
   clear hbu hlt hbw2
   obtain ⟨k,hk,rfl,rfl,rfl,hbu,hBlt,hb⟩:=hrel
   by_cases hlt:k < n
   · obtain ⟨t,ht⟩:∃ t,ts[k]? = some t:=⟨_,List.getElem?_eq_getElem (by rw [← HN.out];exact hlt)⟩
     obtain ⟨b,rfl,c0,c1⟩:=H.out k t ht
     have x0:wr.cell? ⟨b,k*2,none⟩=some (.string (ratB t.1)):=zC hb c0
     have x1:wr.cell? ⟨b,k*2+1,none⟩=some (.string (itoaB (t.2:Int))):=zC hb c1
     obtain ⟨hr1,hr2⟩:=HF.out t (List.mem_of_getElem? ht)
     have zt:=termS_size t hr1 hr2
     have k1:=fun (w:World) (R:EnvR w)=>rsign_any t.1 (hr1.mono (by decide)) w R
     have k2:=fun (w:World) (R:EnvR w)=>termText_any t (hr1.mono (by decide)) (by omega) w R
     have hlen:=textL_len (ts.take k) true (fun u hu=>HF.out u (List.mem_of_mem_take hu))
     rw [List.length_take] at hlen
     have hsn:textL true (ts.take (k+1))=textL true (ts.take k) ++ (preS (decide (k=0)) t.1 ++ termS t).data.toList:=by
       rw [List.take_add_one,ht]
       have:=textL_snoc (ts.take k) true t
       have e:(ts.take k).isEmpty=decide (k=0):=by
         rw [Bool.eq_iff_iff,List.isEmpty_iff,decide_eq_true_iff]
         refine ⟨fun h=>?_,fun h=>by rw [h];rfl⟩
         have:=congrArg List.length h
         rw [List.length_take,List.length_nil] at this
         have:=HN.out
         omega
       rw [e] at this
       exact this
     have hps:preS (decide (k=0)) t.1=if t.1.num < 0 then minusS k else plusS k:=by
       unfold preS minusS plusS
       simp only [decide_eq_true_iff]
     have hplus:plusS (k+1)=⟨#[32,43,32]⟩:=if_neg (Nat.succ_ne_zero k)
     have hminus:minusS (k+1)=⟨#[32,45,32]⟩:=if_neg (Nat.succ_ne_zero k)
     rw [hps] at hsn
     have z3:(plusS k).size≤3:=by unfold plusS;split <;> decide
     have z4:(minusS k).size≤3:=by unfold minusS;split <;> decide
     obtain ⟨y,hy⟩:∃ y,t.1.num.sign=y:=⟨_,rfl⟩
     rw [hy] at k1
     have hyl:y < 0↔t.1.num < 0:=by rw [← hy];exact Int.sign_neg_iff
     have HPL:=Lib.hid hplus
     have HMI:=Lib.hid hminus
     generalize itoaB (t.2:Int)=rb at k2 x1 c1
     generalize ratB t.1=s at k1 k2 x0 c0
     have g1:(k:Int) < (n:Int):=by omega
     have g2:(0:Int)≤(k:Int):=by omega
     have K1:=Lib.hid k1
     have K2:=Lib.hid k2
     obtain ⟨acc,hacc⟩:∃ a,textL true (ts.take k)=a:=⟨_,rfl⟩
     rw [hacc] at hbu hlen hsn
     obtain ⟨tx,htx⟩:∃ a,termS t=a:=⟨_,rfl⟩
     rw [htx] at hsn zt K2
     generalize plusS k=pk at hsn z3 ⊢
     generalize minusS k=mk at hsn z4 ⊢
     clear k1 k2 c0 c1 hr1 hr2 hps hplus hminus hacc htx ht hy
     have fin:∀ (pre:ByteArray),pre.size≤3→textL true (ts.take (k+1))=acc ++ (pre ++ tx).data.toList→∀ w',Below w.heap.size w w'→B < w'.heap.size→Lib.IsBuilderF 124 5 B B (Lib.byteCells acc) w'→Calls Tryz.prog 80 #[.pointer (some ⟨B,0,none⟩),.string (pre ++ tx)] w' fun e w'' => e = .returned (.tuple #[.int .i64 (pre ++ tx).size,.nilIface])∧Lib.IsBuilderF 124 5 B B (Lib.byteCells (textL true (ts.take (k+1)))) w''∧B < w''.heap.size∧Below w.heap.size w w'':=fun pre hp hs w' hbw hlw hbl=>by
       refine (Tryz.bWrite B B _ (pre ++ tx) w' hbl (by rw [Lib.byteCells_length,ByteArray.size_append];omega) (by omega)).mono ?_
       rintro e w'' ⟨rfl,h1,h2⟩
       refine ⟨rfl,?_,h1.lt,hbw.trans (h2.mono hwB)⟩
       rw [hs,Lib.byteCells_append,← Lib.strCells_eq]
       exact .inr h1
     have FIN:=Lib.hid fin
     clear fin
     have zz1:(pk ++ tx).size=pk.size+tx.size:=ByteArray.size_append
     have zz2:(mk ++ tx).size=mk.size+tx.size:=ByteArray.size_append
     by_cases hneg:t.1.num < 0
     · rw [if_pos hneg] at hsn
       have hy2:y < 0:=hyl.2 hneg
       have HSN:=Lib.hid hsn
       clear hsn hneg hyl
       go_upto_region 11 with fail
       refine wp_alloc1 (fun wa h0 hba=>?_)
       replace hbu:=builder_below hbu hba
       replace hBlt:=Nat.lt_of_lt_of_le hBlt hba.size
       replace hb:=hb.trans (hba.mono hb.size)
       obtain ⟨B2,hB2⟩:∃ B2,wr.heap.size=B2:=⟨_,rfl⟩
       rw [hB2] at h0
       clear x0 x1 hba
       have y0:=blk_cell h0 0 rfl
       have y1:=blk_cell h0 1 rfl
       go_wp2_with (first | (go_at_call 46;(with_reducible refine (zK hb (K1.out _ (R.below hb))).mono ?_);clear hb;rintro e w1 ⟨rfl,hk,hb⟩;replace h0:=blk_below hk h0;replace hbu:=builder_below hbu hk;replace hBlt:=Nat.lt_of_lt_of_le hBlt hk.size;clear hk;have y0:=blk_cell h0 0 rfl;have y1:=blk_cell h0 1 rfl) | (go_at_call 81;(with_reducible refine (zK hb (K2.out _ (R.below hb))).mono ?_);clear hb;rintro e w2 ⟨rfl,hk,hb⟩;replace hbu:=builder_below hbu hk;replace hBlt:=Nat.lt_of_lt_of_le hBlt hk.size;clear hk) | (go_at_call 80;(with_reducible refine (FIN.out _ z4 HSN.out _ hb hBlt hbu).mono ?_);clear hb hbu hBlt;rintro e w3 ⟨rfl,hbu,hBlt,hb⟩))
       go_roundw
       case rel =>
         first
         | exact ⟨k+1,by omega,by go_num,by rw [HPL.out],by rw [HMI.out],hbu,hBlt,hb⟩
         | iterate 20 (apply Exists.intro)
           refine ⟨?_,rfl⟩
           exact ⟨k+1,by omega,by go_num,by rw [HPL.out],by rw [HMI.out],hbu,hBlt,hb⟩
       case measure=>simp [intOf];omega
     · rw [if_neg hneg] at hsn
       have hy2:¬ y < 0:=fun h=>hneg (hyl.1 h)
       have HSN:=Lib.hid hsn
       clear hsn hneg hyl
       go_upto_region 11 with fail
       refine wp_alloc1 (fun wa h0 hba=>?_)
       replace hbu:=builder_below hbu hba
       replace hBlt:=Nat.lt_of_lt_of_le hBlt hba.size
       replace hb:=hb.trans (hba.mono hb.size)
       obtain ⟨B2,hB2⟩:∃ B2,wr.heap.size=B2:=⟨_,rfl⟩
       rw [hB2] at h0
       clear x0 x1 hba
       have y0:=blk_cell h0 0 rfl
       have y1:=blk_cell h0 1 rfl
       go_wp2_with (first | (go_at_call 46;(with_reducible refine (zK hb (K1.out _ (R.below hb))).mono ?_);clear hb;rintro e w1 ⟨rfl,hk,hb⟩;replace h0:=blk_below hk h0;replace hbu:=builder_below hbu hk;replace hBlt:=Nat.lt_of_lt_of_le hBlt hk.size;clear hk;have y0:=blk_cell h0 0 rfl;have y1:=blk_cell h0 1 rfl) | (go_at_call 81;(with_reducible refine (zK hb (K2.out _ (R.below hb))).mono ?_);clear hb;rintro e w2 ⟨rfl,hk,hb⟩;replace hbu:=builder_below hbu hk;replace hBlt:=Nat.lt_of_lt_of_le hBlt hk.size;clear hk) | (go_at_call 80;(with_reducible refine (FIN.out _ z3 HSN.out _ hb hBlt hbu).mono ?_);clear hb hbu hBlt;rintro e w3 ⟨rfl,hbu,hBlt,hb⟩))
       go_roundw
       case rel =>
         first
         | exact ⟨k+1,by omega,by go_num,by rw [HPL.out],by rw [HMI.out],hbu,hBlt,hb⟩
         | iterate 20 (apply Exists.intro)
           refine ⟨?_,rfl⟩
           exact ⟨k+1,by omega,by go_num,by rw [HPL.out],by rw [HMI.out],hbu,hBlt,hb⟩
       case measure=>simp [intOf];omega
   · have hkn:k=n:=by omega
     subst hkn
     rw [List.take_of_length_le (by rw [← HN.out];omega)] at hbu
     have k1:=Tryz.bString B B _ wr hbu (by omega)
     have K1:=Lib.hid k1
     clear k1 hbu
     go_wp2_with (go_at_call 82;(with_reducible refine K1.out.mono ?_);rintro e w2 ⟨rfl,_,hk⟩)
     go_ret2
     exact ⟨rfl,hb.trans (hk.mono hwB)⟩
instance decRL (q:Rat) (K:Nat):Decidable (RL q K):=by unfold RL;infer_instance
theorem good_one (t:Tm) (h:RL t.1 200∧dlen (t.2:Int)≤200∧t.1≠0∧0 < t.2∧(t.2=1∨sqN t.2=false)):Good [t] where
 len:=by show 1≤40;decide
 fit:=fun u hu=>by
   rw [List.mem_singleton] at hu
   rw [hu];exact h
 ord:=fun i j a b hij ha hb=>by
   match j,hij,hb with
   | 0,hij,_=>omega
   | j+1,_,hb=>simp at hb
theorem good_two (t u:Tm) (h:RL t.1 200∧dlen (t.2:Int)≤200∧t.1≠0∧0 < t.2∧(t.2=1∨sqN t.2=false)) (g:RL u.1 200∧dlen (u.2:Int)≤200∧u.1≠0∧0 < u.2∧(u.2=1∨sqN u.2=false)) (o:t.2 < u.2∧sqN (u.2*t.2)=false):Good [t,u] where
 len:=by show 2≤40;decide
 fit:=fun v hv=>by
   simp only [List.mem_cons,List.not_mem_nil,or_false] at hv
   rcases hv with rfl | rfl
   · exact h
   · exact g
 ord:=fun i j a b hij ha hb=>by
   match i,j,hij,ha,hb with
   | 0,1,_,ha,hb=>injection ha with ha;injection hb with hb;subst ha hb;exact o
   | _,0,hij,_,_=>omega
   | 1,1,hij,_,_=>omega
   | i+2,1,hij,_,_=>omega
   | _,j+2,_,_,hb=>simp at hb
theorem of8 : ofT 8=([(1,8)],0):=by decide +kernel
theorem ofH : ofT (1 / 2)=([(1 / 2,2)],0):=by decide +kernel
theorem ofQ : ofT (9 / 4)=([(3 / 2,1)],0):=by decide +kernel
theorem known3_of (q:Rat) (s:ByteArray) (ts:List Tm) (hs:ratB q=s) (hq:RL q 200) (ht:ofT q=(ts,0)) (w:World) (R:EnvR w):Calls Tryz.prog 14 #[.string s] w (RetS w ts 0):=by
 have:=of_rat q hq w R
 rwa [hs,ht] at this
def ts99 : List Tm:=[(99,1),(-70,2)]
theorem good99 : Good ts99:=good_two _ _ (by (try exact decRL _ _);decide +kernel) (by (try exact decRL _ _);decide +kernel) (by (try exact decRL _ _);decide +kernel)
theorem root99 : rootN (99*10 ^ 12*(99*10 ^ 12)*1)=99000000000000:=rootN_eq ⟨by decide,by decide⟩
theorem root70 : rootN (70*10 ^ 12*(70*10 ^ 12)*2)=98994949366116:=rootN_eq ⟨by decide,by decide⟩
theorem sizeT_eq {S:Nat} {f:Rat} {x a d r:Nat} (h1:f.num.natAbs=a) (hd:f.den=d) (hr:rootN (a*S*(a*S)*x)=r):sizeT S (f,x)=if f.num < 0 then -1 - (r:Int) / (d:Int) else (r:Int) / (d:Int):=by
 unfold sizeT
 simp only [h1,hd]
 rw [hr]
theorem low99 : lowD ts99 0=5050633883:=by
 have e1:sizeT (10 ^ 12) ((99:Rat),1)=99000000000000:=(sizeT_eq (a:=99) (d:=1) (by decide +kernel) (by decide +kernel) root99).trans (by decide +kernel)
 have e2:sizeT (10 ^ 12) ((-70:Rat),2) = -98994949366117:=(sizeT_eq (a:=70) (d:=1) (by decide +kernel) (by decide +kernel) root70).trans (by decide +kernel)
 unfold lowD lowT ts99
 rw [show digT 0=12 from rfl,List.map_cons,List.map_cons,List.map_nil,e1,e2]
 decide
theorem hasT_fit {ts:List Tm} (h:Good ts):∀ t ∈ ts,RL t.1 2000∧dlen (t.2:Int)≤2000:=fun t ht=>⟨(h.fit t ht).1.mono (by decide),by have:=(h.fit t ht).2.1;omega⟩
theorem known3_sign (p:Option Addr) (c:Nat) (w:World) (R:EnvS w) (h:HasT w p ts99) :
   Calls Tryz.prog 27 #[.slice p 2 c] w (Ret w (.tuple #[.int .i64 1,.int .i64 0])):=
 surdSign_w _ 1 w (fun w' hb=>check_ok p 2 c ts99 rfl good99 w' (R.below hb) (h.below hb)) (fun w' hb =>
   signLoop p 2 c ts99 1 1 rfl (by decide) (by decide) (hasT_fit good99) 0 (by decide) (fun j hj=>absurd hj (Nat.not_lt_zero _)) (.inl ⟨rfl,by rw [low99];decide⟩) w' (R.toEnvR.below hb) (h.below hb)
     (fun t ht=>by injection ht with ht;subst ht;decide +kernel) (by decide +kernel))
def tsTx : List Tm:=[(1 / 2,1),(-1,5)]
theorem goodTx : Good tsTx:=good_two _ _ (by (try exact decRL _ _);decide +kernel) (by (try exact decRL _ _);decide +kernel) (by (try exact decRL _ _);decide +kernel)
theorem known3_text (p:Option Addr) (c:Nat) (w:World) (R:EnvS w) (h:HasT w p tsTx) :
   Calls Tryz.prog 38 #[.slice p 2 c] w (Ret w (.tuple #[.string ⟨#[49,47,50,32,45,32,115,113,114,116,40,53,41]⟩,.int .i64 0])):=by
 have:=text_some p 2 c tsTx rfl (by decide) (by decide) (fun t ht=>⟨(goodTx.fit t ht).1,(goodTx.fit t ht).2.1⟩) w R.toEnvR h (fun w' hb=>check_ok p 2 c tsTx rfl goodTx w' (R.below hb) (h.below hb))
 rwa [show strOf (textL true tsTx)=⟨#[49,47,50,32,45,32,115,113,114,116,40,53,41]⟩ by decide +kernel] at this
def tsR2 : List Tm:=[(1,2)]
theorem goodR2 : Good tsR2:=good_one _ (by (try exact decRL _ _);decide +kernel)
theorem rootR2 : rootN (1*(10 ^ 12*10)*(1*(10 ^ 12*10))*2)=14142135623730:=rootN_eq ⟨by decide,by decide⟩
theorem lowR2 : lowF tsR2 10 0=14142135623730:=by
 have e1:sizeT (10 ^ 12*10) ((1:Rat),2)=14142135623730:=(sizeT_eq (a:=1) (d:=1) (by decide +kernel) (by decide +kernel) rootR2).trans (by decide +kernel)
 unfold lowF lowT tsR2
 rw [show digT 0=12 from rfl,List.map_cons,List.map_nil,e1]
 decide
theorem known3_bounds (p:Option Addr) (c:Nat) (w:World) (R:EnvS w) (h:HasT w p tsR2) :
   Calls Tryz.prog 34 #[.slice p 1 c,.int .i64 10] w (Ret w (.tuple #[.string ⟨#[55,47,53]⟩,.string ⟨#[51,47,50]⟩,.int .i64 0])):=by
 have b10:itoaB 10=⟨#[49,48]⟩:=by decide +kernel
 have b14:itoaB 14=⟨#[49,52]⟩:=by decide +kernel
 have b15:itoaB 15=⟨#[49,53]⟩:=by decide +kernel
 have r1:ratB (Rat.divInt 14 10)=⟨#[55,47,53]⟩:=by decide +kernel
 have r2:ratB (Rat.divInt 15 10)=⟨#[51,47,50]⟩:=by decide +kernel
 refine bounds_w (.slice p 1 c) 10 (by decide) (by decide) ⟨#[49,48]⟩ ⟨#[49,52]⟩ ⟨#[49,53]⟩ _ _ w R.toEnvR (fun w' hb=>check_ok p 1 c tsR2 rfl goodR2 w' (R.below hb) (h.below hb)) (fun w R=>?_) (fun w' hb=>?_) (fun w R=>?_) (fun w R=>?_) (fun w R=>?_) (fun w R=>?_) (fun w R=>?_)
 · have:=of_any 10 (by decide) (by decide) w R.env
   rwa [b10] at this
 · have:=floorLoop p 1 c tsR2 10 14 rfl (by decide) (by decide +kernel) (hasT_fit goodR2) rfl 0 (by decide) (fun j hj=>absurd hj (Nat.not_lt_zero _)) (by rw [lowR2];decide) (by rw [lowR2];decide) w' (R.toEnvR.below hb) (h.below hb)
   rw [show ((10:Nat):Int)=10 from rfl,b10,b14] at this
   exact this
 · have:=add_any 14 1 w R.env (by decide +kernel) (by decide +kernel)
   rwa [b14,itoa_one,show (14+1:Int)=15 from rfl,b15] at this
 · have:=rnew_any 14 10 w R (by decide +kernel) (by decide +kernel) (by decide)
   rwa [b14,b10,r1] at this
 · have:=rnew_any 15 10 w R (by decide +kernel) (by decide +kernel) (by decide)
   rwa [b15,b10,r2] at this
 · have:=rcheck_rat (Rat.divInt 14 10) (by (try exact decRL _ _);decide +kernel) w R
   rwa [r1,show rlB (Rat.divInt 14 10) 200=true by decide +kernel] at this
 · have:=rcheck_rat (Rat.divInt 15 10) (by (try exact decRL _ _);decide +kernel) w R
   rwa [r2,show rlB (Rat.divInt 15 10) 200=true by decide +kernel] at this
theorem chainS {P:Program} {K:FuncId} {args:Array Value} {w w0:World} {ts:List Tm} {v:Int} (hb:Below w0.heap.size w0 w) (h:Calls P K args w (RetS w ts v)) :
   Calls P K args w fun e w' => ∃ p n c,e = .returned (.tuple #[.slice p n c,.int .i64 v])∧n=ts.length∧n≤c∧c≤1000000∧HasT w' p ts∧Below w.heap.size w w'∧Below w0.heap.size w0 w':=
 h.mono fun _ _ ⟨p,n,c,h1,h2,h3,h4,h5,h6⟩=>⟨p,n,c,h1,h2,h3,h4,h5,h6,hb.trans (h6.mono hb.size)⟩
theorem chainL {P:Program} {K:FuncId} {args:Array Value} {w w0:World} {ts:List Tm} (hb:Below w0.heap.size w0 w) (h:Calls P K args w (RetL w ts)) :
   Calls P K args w fun e w' => ∃ p n c,e = .returned (.slice p n c)∧n=ts.length∧n≤c∧HasT w' p ts∧Below w.heap.size w w'∧Below w0.heap.size w0 w':=
 h.mono fun _ _ ⟨p,n,c,h1,h2,h3,h4,h5⟩=>⟨p,n,c,h1,h2,h3,h4,h5,hb.trans (h5.mono hb.size)⟩
theorem same1 (p q:Option Addr) (c d:Nat) (t:Tm) (w:World) (h1:HasT w p [t]) (h2:HasT w q [t]) :
   Calls Tryz.prog 17 #[.slice p 1 c,.slice q 1 d] w (Ret w (.bool true)):=by
 have:=same_any p q 1 c 1 d [t] [t] rfl rfl (by decide) (by decide) w h1 h2
 rwa [decide_eq_true rfl] at this
theorem lit8 : ratB 8=⟨#[56]⟩:=by decide +kernel
theorem hasT8 {w:World} {b:Nat} {T:TypeId} (h:w.heap[b]? = some (.cells #[.string ⟨#[49]⟩,.string ⟨#[56]⟩] T (0,0))):HasT w (some ⟨b,0,none⟩) [((1:Rat),8)]:=by
 rw [show (⟨#[49]⟩:ByteArray)=ratB 1 by decide +kernel,show (⟨#[56]⟩:ByteArray)=itoaB ((8:Nat):Int) by decide +kernel] at h
 exact HasT.one h
theorem hasTH {w:World} {b:Nat} {T:TypeId} (h:w.heap[b]? = some (.cells #[.string ⟨#[49,47,50]⟩,.string ⟨#[50]⟩] T (0,0))):HasT w (some ⟨b,0,none⟩) [((1 / 2:Rat),2)]:=by
 rw [show (⟨#[49,47,50]⟩:ByteArray)=ratB (1 / 2) by decide +kernel,show (⟨#[50]⟩:ByteArray)=itoaB ((2:Nat):Int) by decide +kernel] at h
 exact HasT.one h
theorem hasTQ {w:World} {b:Nat} {T:TypeId} (h:w.heap[b]? = some (.cells #[.string ⟨#[51,47,50]⟩,.string ⟨#[49]⟩] T (0,0))):HasT w (some ⟨b,0,none⟩) [((3 / 2:Rat),1)]:=by
 rw [show (⟨#[51,47,50]⟩:ByteArray)=ratB (3 / 2) by decide +kernel,show (⟨#[49]⟩:ByteArray)=itoaB ((1:Nat):Int) by decide +kernel] at h
 exact HasT.one h
theorem hasT99 {w:World} {b:Nat} {T:TypeId} (h:w.heap[b]? = some (.cells #[.string ⟨#[57,57]⟩,.string ⟨#[49]⟩,.string ⟨#[45,55,48]⟩,.string ⟨#[50]⟩] T (0,0))):HasT w (some ⟨b,0,none⟩) ts99:=by
 rw [show (⟨#[57,57]⟩:ByteArray)=ratB 99 by decide +kernel,show (⟨#[49]⟩:ByteArray)=itoaB ((1:Nat):Int) by decide +kernel,show (⟨#[45,55,48]⟩:ByteArray)=ratB (-70) by decide +kernel,show (⟨#[50]⟩:ByteArray)=itoaB ((2:Nat):Int) by decide +kernel] at h
 exact HasT.two h
theorem hasTTx {w:World} {b:Nat} {T:TypeId} (h:w.heap[b]? = some (.cells #[.string ⟨#[49,47,50]⟩,.string ⟨#[49]⟩,.string ⟨#[45,49]⟩,.string ⟨#[53]⟩] T (0,0))):HasT w (some ⟨b,0,none⟩) tsTx:=by
 rw [show (⟨#[49,47,50]⟩:ByteArray)=ratB (1 / 2) by decide +kernel,show (⟨#[49]⟩:ByteArray)=itoaB ((1:Nat):Int) by decide +kernel,show (⟨#[45,49]⟩:ByteArray)=ratB (-1) by decide +kernel,show (⟨#[53]⟩:ByteArray)=itoaB ((5:Nat):Int) by decide +kernel] at h
 exact HasT.two h
theorem hasTR2 {w:World} {b:Nat} {T:TypeId} (h:w.heap[b]? = some (.cells #[.string ⟨#[49]⟩,.string ⟨#[50]⟩] T (0,0))):HasT w (some ⟨b,0,none⟩) tsR2:=by
 rw [show (⟨#[49]⟩:ByteArray)=ratB 1 by decide +kernel,show (⟨#[50]⟩:ByteArray)=itoaB ((2:Nat):Int) by decide +kernel] at h
 exact HasT.one h
theorem known3_same8 (p:Option Addr) (c B:Nat) (w:World) (h1:HasT w p [((1:Rat),8)]) (h2:w.heap[B]? = some (.cells #[.string ⟨#[49]⟩,.string ⟨#[56]⟩] 39 (0,0))):Calls Tryz.prog 17 #[.slice p 1 c,.slice (some ⟨B,0,none⟩) 1 1] w (Ret w (.bool true)):=same1 p _ c 1 _ w h1 (hasT8 h2)
theorem known3_sameH (p:Option Addr) (c B:Nat) (w:World) (h1:HasT w p [((1 / 2:Rat),2)]) (h2:w.heap[B]? = some (.cells #[.string ⟨#[49,47,50]⟩,.string ⟨#[50]⟩] 39 (0,0))):Calls Tryz.prog 17 #[.slice p 1 c,.slice (some ⟨B,0,none⟩) 1 1] w (Ret w (.bool true)):=same1 p _ c 1 _ w h1 (hasTH h2)
theorem known3_sameQ (p:Option Addr) (c B:Nat) (w:World) (h1:HasT w p [((3 / 2:Rat),1)]) (h2:w.heap[B]? = some (.cells #[.string ⟨#[51,47,50]⟩,.string ⟨#[49]⟩] 39 (0,0))):Calls Tryz.prog 17 #[.slice p 1 c,.slice (some ⟨B,0,none⟩) 1 1] w (Ret w (.bool true)):=same1 p _ c 1 _ w h1 (hasTQ h2)
theorem known3_any (w:World) (R:EnvS w) :
   Calls Tryz.prog 13 #[] w (Ret w (.bool true)):=by
 have A1:=Lib.hid (known3_of 8 ⟨#[56]⟩ _ lit8 (by (try exact decRL _ _);decide +kernel) of8)
 have A2:=Lib.hid (known3_of (1 / 2) ⟨#[49,47,50]⟩ _ (by (try exact decRL _ _);decide +kernel) (by (try exact decRL _ _);decide +kernel) ofH)
 have A3:=Lib.hid (known3_of (9 / 4) ⟨#[57,47,52]⟩ _ (by (try exact decRL _ _);decide +kernel) (by (try exact decRL _ _);decide +kernel) ofQ)
 have hb:=Below.refl w.heap.size w
 go_enter Tryz.func13,Tryz.ntmps13
 go_upto_region 2 with (go_at_call 14;((with_reducible refine (chainS hb (A1.out _ (R.toEnvR.below hb))).mono ?_);clear hb;rintro e w1 ⟨p,m,c,rfl,hm,_,_,hT,hk,hb⟩;obtain rfl:m=1:=hm;(try replace hTa:=hTa.below hk);(try replace hTb:=hTb.below hk);(try replace hTc:=hTc.below hk);have hTa:=hT;clear hT hk))
 go_upto_region 3 with (go_at_call 14;((with_reducible refine (chainS hb (A2.out _ (R.toEnvR.below hb))).mono ?_);clear hb;rintro e w1 ⟨p,m,c,rfl,hm,_,_,hT,hk,hb⟩;obtain rfl:m=1:=hm;(try replace hTa:=hTa.below hk);(try replace hTb:=hTb.below hk);(try replace hTc:=hTc.below hk);have hTb:=hT;clear hT hk))
 go_upto_region 4 with (go_at_call 14;((with_reducible refine (chainS hb (A3.out _ (R.toEnvR.below hb))).mono ?_);clear hb;rintro e w1 ⟨p,m,c,rfl,hm,_,_,hT,hk,hb⟩;obtain rfl:m=1:=hm;(try replace hTa:=hTa.below hk);(try replace hTb:=hTb.below hk);(try replace hTc:=hTc.below hk);have hTc:=hT;clear hT hk))
 go_upto_region 7 with (first | (go_at_call 27;refine calls_alloc1 (fun wq hq hbq=>?_);have hb2:=hb.trans (hbq.mono hb.size);(with_reducible refine (zK hb2 (known3_sign _ _ wq (R.below hb2) (hasT99 hq))).mono ?_);clear hb;rintro e w1 ⟨rfl,hk1,hb⟩;have hk:=hbq.trans (hk1.mono hbq.size);(try replace hTa:=hTa.below hk);(try replace hTb:=hTb.below hk);(try replace hTc:=hTc.below hk);clear hk hk1 hbq hb2 hq) | (go_at_call 38;refine calls_alloc1 (fun wq hq hbq=>?_);have hb2:=hb.trans (hbq.mono hb.size);(with_reducible refine (zK hb2 (known3_text _ _ wq (R.below hb2) (hasTTx hq))).mono ?_);clear hb;rintro e w1 ⟨rfl,hk1,hb⟩;have hk:=hbq.trans (hk1.mono hbq.size);(try replace hTa:=hTa.below hk);(try replace hTb:=hTb.below hk);(try replace hTc:=hTc.below hk);clear hk hk1 hbq hb2 hq) | (go_at_call 34;refine calls_alloc1 (fun wq hq hbq=>?_);have hb2:=hb.trans (hbq.mono hb.size);(with_reducible refine (zK hb2 (known3_bounds _ _ wq (R.below hb2) (hasTR2 hq))).mono ?_);clear hb;rintro e w1 ⟨rfl,hk1,hb⟩;have hk:=hbq.trans (hk1.mono hbq.size);(try replace hTa:=hTa.below hk);(try replace hTb:=hTb.below hk);(try replace hTc:=hTc.below hk);clear hk hk1 hbq hb2 hq))
 go_wp2_with (first | (go_at_call 18;first | ((with_reducible refine (chainL hb (plain_any _ 1 _ _ rfl (by decide) _ hTa)).mono ?_);clear hb;rintro e w1 ⟨q,m,d,rfl,hm,_,hT,hk,hb⟩;obtain rfl:m=1:=hm;(try replace hTa:=hTa.below hk);(try replace hTb:=hTb.below hk);(try replace hTc:=hTc.below hk);have hQ:=hT;clear hT hk) | ((with_reducible refine (chainL hb (plain_any _ 1 _ _ rfl (by decide) _ hTb)).mono ?_);clear hb;rintro e w1 ⟨q,m,d,rfl,hm,_,hT,hk,hb⟩;obtain rfl:m=1:=hm;(try replace hTa:=hTa.below hk);(try replace hTb:=hTb.below hk);(try replace hTc:=hTc.below hk);have hQ:=hT;clear hT hk) | ((with_reducible refine (chainL hb (plain_any _ 1 _ _ rfl (by decide) _ hTc)).mono ?_);clear hb;rintro e w1 ⟨q,m,d,rfl,hm,_,hT,hk,hb⟩;obtain rfl:m=1:=hm;(try replace hTa:=hTa.below hk);(try replace hTb:=hTb.below hk);(try replace hTc:=hTc.below hk);have hQ:=hT;clear hT hk)) | (go_at_call 17;refine calls_alloc1 (fun wq hq hbq=>?_);have hb2:=hb.trans (hbq.mono hb.size);first | ((with_reducible refine (zK hb2 (known3_same8 _ _ _ wq (hQ.below hbq) hq)).mono ?_);clear hb;rintro e w1 ⟨rfl,hk1,hb⟩;have hk:=hbq.trans (hk1.mono hbq.size);(try replace hTa:=hTa.below hk);(try replace hTb:=hTb.below hk);(try replace hTc:=hTc.below hk);clear hk hk1 hbq hb2 hq hQ) | ((with_reducible refine (zK hb2 (known3_sameH _ _ _ wq (hQ.below hbq) hq)).mono ?_);clear hb;rintro e w1 ⟨rfl,hk1,hb⟩;have hk:=hbq.trans (hk1.mono hbq.size);(try replace hTa:=hTa.below hk);(try replace hTb:=hTb.below hk);(try replace hTc:=hTc.below hk);clear hk hk1 hbq hb2 hq hQ) | ((with_reducible refine (zK hb2 (known3_sameQ _ _ _ wq (hQ.below hbq) hq)).mono ?_);clear hb;rintro e w1 ⟨rfl,hk1,hb⟩;have hk:=hbq.trans (hk1.mono hbq.size);(try replace hTa:=hTa.below hk);(try replace hTb:=hTb.below hk);(try replace hTc:=hTc.below hk);clear hk hk1 hbq hb2 hq hQ)))
 go_ret
 exact ⟨rfl,hb⟩
theorem refRoot_big (X:Nat) (w:World) (E:Env w) (hx:dlen (X:Int)≤1000) :
   Calls Tryz.prog 97 #[.string (itoaB (X:Int))] w (Ret w (.string (itoaB (rootN X)))):=by
 by_cases h0:X=0
 · subst h0
   have e0:itoaB ((0:Nat):Int)=⟨#[48]⟩:=(itoa_eq_zero 0).2 rfl
   have e1:rootN 0=0:=rfl
   rw [e1,e0]
   go_enter Tryz.func97,Tryz.ntmps97
   go_wp2
   go_ret
   exact ⟨rfl,Below.refl _ _⟩
 · have hz:((itoaB (X:Int)).toList == [48])=false:=by
     rw [← decide_eq_false (show ¬ (X:Int)=0 by omega),Bool.eq_iff_iff,beq_iff_eq,decide_eq_true_iff,← itoa_eq_zero,Lib.toList_data]
     exact ⟨fun h=>dat_inj h,fun h=>by rw [h]⟩
   have hsz:=itoaB_size_nat X
   obtain ⟨L,hL⟩:∃ L,dlen (X:Int)=L:=⟨_,rfl⟩
   rw [hL] at hsz hx
   obtain ⟨K,hK⟩:∃ K,(L+1) / 2=K:=⟨_,rfl⟩
   have hK2:K≤500:=by omega
   have hab:X < 10 ^ K*10 ^ K:=by
     rw [← hK];exact ten_above X L (by rw [← hL];exact dig_lt X)
   have e10:itoaB 10=⟨#[49,48]⟩:=by decide +kernel
   have e2:itoaB 2=⟨#[50]⟩:=by decide +kernel
   have hpow:CE 142 #[.string ⟨#[49,48]⟩,.int .i64 K] (.string (itoaB ((10 ^ K:Nat):Int))):=fun w E=>by
     have:=refPower_gen 10 K 500 w E hK2 (by decide) (by decide +kernel) (fun k hk=>by have h:=dlen_le_pow (10 ^ k) k (Nat.le_refl _);rw [Int.natCast_pow] at h;exact Nat.le_trans h (by omega))
     rwa [e10,show ((10:Int) ^ K)=((10 ^ K:Nat):Int) by rw [Int.natCast_pow];rfl] at this
   have hdx:dlen (X:Int)≤9000:=by omega
   have dm:∀ (g:Nat),g≠0→dlen (g:Int)≤9000→CE 78 #[.string (itoaB (X:Int)),.string (itoaB (g:Int))] (.tuple #[.string (itoaB ((X / g:Nat):Int)),.string (itoaB ((X % g:Nat):Int))]):=fun g hg hd w E=>by
     have:=refDivMod_any (X:Int) (g:Int) w E hdx hd (by omega)
     rwa [← Int.natCast_ediv,← Int.natCast_emod] at this
   have dm2:∀ (s:Nat),dlen (s:Int)≤9000→CE 78 #[.string (itoaB (s:Int)),.string ⟨#[50]⟩] (.tuple #[.string (itoaB ((s / 2:Nat):Int)),.string (itoaB ((s % 2:Nat):Int))]):=fun s hd w E=>by
     have:=refDivMod_any (s:Int) 2 w E hd (by decide +kernel) (by decide)
     rw [e2] at this
     exact this
   obtain ⟨mv,hmv⟩:=itoa_val
   obtain ⟨G,hG⟩:∃ G,10 ^ K=G:=⟨_,rfl⟩
   have hGd:∀ g,g≤G→dlen (g:Int)≤501:=fun g hg=>by
     have:=dlen_le_pow g K (by rw [hG];exact hg);omega
   have hG1:1≤G:=by rw [← hG];exact Nat.one_le_pow _ _ (by decide)
   have hXd:∀ g,dlen ((X / g:Nat):Int)≤1000:=fun g=>dlen_nat_le _ (X:Int) 1000 (by decide) (by rw [Int.natAbs_natCast];exact Nat.div_le_self _ _) (by rw [hL];exact hx)
   rw [hG] at hab
   simp only [hG] at hpow
   have z1:IntKind.i64.wrap ((L:Int)+1)=((L+1:Nat):Int):=by rw [Int.natCast_add];exact IntWalk.i64_in _ (by omega)
   obtain ⟨S1,hS1⟩:∃ S1,L+1=S1:=⟨_,rfl⟩
   rw [hS1] at z1 hK
   have z3:(S1:Int).tdiv 2=(K:Int):=by rw [Int.tdiv_eq_ediv_of_nonneg (by omega)];omega
   obtain ⟨a,ha⟩:∃ a,itoaB (X:Int)=a:=⟨_,rfl⟩
   rw [ha] at hz hsz ⊢
   simp only [ha] at dm
   have HP:=Lib.hid hpow
   have DM:=Lib.hid dm
   have DM2:=Lib.hid dm2
   have HMV:=Lib.hid hmv
   have HGD:=Lib.hid hGd
   have HXD:=Lib.hid hXd
   have HAB:Hid (X < (G+1)*(G+1)):=Lib.hid (above_succ hab)
   clear hpow dm dm2 hmv hGd hXd hab hG hK hS1 e10 e2 ha hx hdx hL
   have hb:=Below.refl w.heap.size w
   go_enter Tryz.func97,Tryz.ntmps97
   go_wp2_with (go_at_call 142;refine (chain hb (HP.out _ (E.below hb))).mono ?_;clear hb;rintro e w1 ⟨rfl,hb⟩)
   have HB:=Lib.hid hb
   clear hb
   go_loopw [3] (fun gv wr=>∃ g:Nat,gv = .string (itoaB (g:Int))∧1≤g∧g≤G∧Hid (X < (g+1)*(g+1))∧Below w.heap.size w wr) (fun gv _=>mv gv)
   case atStart=>exact ⟨G,rfl,hG1,Nat.le_refl _,HAB,HB.out⟩
   case round =>
     obtain ⟨g,rfl,hg1,hg2,HA,hb⟩:=hrel
     clear HB
     have hgd:=HGD.out g hg2
     have hxd:=HXD.out g
     have c1:CE 78 #[.string a,.string (itoaB (g:Int))] (.tuple #[.string (itoaB ((X / g:Nat):Int)),.string (itoaB ((X % g:Nat):Int))]):=DM.out g (by omega) (by omega)
     have c2:CE 31 #[.string (itoaB (g:Int)),.string (itoaB ((X / g:Nat):Int))] (.string (itoaB ((g+X / g:Nat):Int))):=fun w E=>by
       have:=refAdd_any (g:Int) ((X / g:Nat):Int) w E (by omega) (by omega)
       rwa [← Int.natCast_add] at this
     have hsd:dlen ((g+X / g:Nat):Int)≤1001:=by
       rw [Int.natCast_add];exact dlen_add _ _ 1000 (by decide) (by omega) hxd
     have c3:=DM2.out (g+X / g) (by omega)
     have hna:=newton_above g X hg1
     have hnp:=newton_pos g X hg1 (by omega)
     obtain ⟨M,hM⟩:∃ M,(g+X / g) / 2=M:=⟨_,rfl⟩
     rw [hM] at hna hnp
     simp only [hM] at c3
     have hMd:dlen (M:Int)≤1001:=dlen_nat_le M ((g+X / g:Nat):Int) 1001 (by decide) (by rw [Int.natAbs_natCast,← hM];exact Nat.div_le_self _ _) hsd
     have c4:CE 43 #[.string (itoaB (M:Int)),.string (itoaB (g:Int))] (.int .i64 ((M:Int) - g).sign):=fun w E=>refCompare_any (M:Int) (g:Int) w E (by omega) (by omega)
     have hend:g≤M→rootN X=g:=fun h=>rootN_eq (newton_end g X HA.out (by rw [hM];exact h))
     have hmg:=HMV.out g
     have hmM:=HMV.out M
     obtain ⟨o,ho⟩:∃ o,((M:Int) - g).sign=o:=⟨_,rfl⟩
     simp only [ho] at c4
     have ho1:g≤M→0≤o:=fun h=>by
       rw [← ho]
       rcases Nat.lt_or_eq_of_le h with h | h
       · rw [Int.sign_eq_one_of_pos (by omega)];decide
       · rw [h,Int.sub_self];decide
     have ho2:¬ g≤M→¬ 0≤o:=fun h=>by
       rw [← ho,Int.sign_eq_neg_one_of_neg (by omega)];decide
     have hfin:g≤M→itoaB ((rootN X:Nat):Int)=itoaB (g:Int):=fun h=>by rw [hend h]
     obtain ⟨sg,hsg⟩:∃ sg,itoaB (g:Int)=sg:=⟨_,rfl⟩
     obtain ⟨sq,hsq⟩:∃ sq,itoaB ((X / g:Nat):Int)=sq:=⟨_,rfl⟩
     obtain ⟨ss,hss⟩:∃ ss,itoaB ((g+X / g:Nat):Int)=ss:=⟨_,rfl⟩
     obtain ⟨sm,hsm⟩:∃ sm,itoaB (M:Int)=sm:=⟨_,rfl⟩
     rw [hsg] at hmg ⊢
     rw [hsm] at hmM
     simp only [hsg] at hfin
     simp only [hsg,hsq,hss,hsm] at c1 c2 c3 c4
     have C1:=Lib.hid c1
     have C2:=Lib.hid c2
     have C3:=Lib.hid c3
     have C4:=Lib.hid c4
     have HSM:=Lib.hid hsm
     have HMG:=Lib.hid hmg
     have HMM:=Lib.hid hmM
     have HFIN:=Lib.hid hfin
     have HNA:=Lib.hid hna
     clear c1 c2 c3 c4 hsg hsq hss hsm hmg hmM hfin hna ho hend hMd hsd hgd hxd hM
     by_cases hge:g≤M
     · have hoo:=ho1 hge
       have HF:=Lib.hid (HFIN.out hge)
       clear ho1 ho2
       go_wp2_with (first | (go_at_call 78;first | (with_reducible refine (chain hb (C1.out _ (E.below hb))).mono ?_;clear hb;rintro e w1 ⟨rfl,hb⟩) | (with_reducible refine (chain hb (C3.out _ (E.below hb))).mono ?_;clear hb;rintro e w1 ⟨rfl,hb⟩)) | (go_at_call 31;refine (chain hb (C2.out _ (E.below hb))).mono ?_;clear hb;rintro e w1 ⟨rfl,hb⟩) | (go_at_call 43;refine (chain hb (C4.out _ (E.below hb))).mono ?_;clear hb;rintro e w1 ⟨rfl,hb⟩))
       go_ret
       exact ⟨retS HF.out.symm,hb⟩
     · have hoo:=ho2 hge
       clear ho1 ho2
       go_wp2_with (first | (go_at_call 78;first | (with_reducible refine (chain hb (C1.out _ (E.below hb))).mono ?_;clear hb;rintro e w1 ⟨rfl,hb⟩) | (with_reducible refine (chain hb (C3.out _ (E.below hb))).mono ?_;clear hb;rintro e w1 ⟨rfl,hb⟩)) | (go_at_call 31;refine (chain hb (C2.out _ (E.below hb))).mono ?_;clear hb;rintro e w1 ⟨rfl,hb⟩) | (go_at_call 43;refine (chain hb (C4.out _ (E.below hb))).mono ?_;clear hb;rintro e w1 ⟨rfl,hb⟩))
       exact ⟨⟨M,by rw [HSM.out],hnp,by omega,HNA,hb⟩,by rw [HMM.out,HMG.out];omega⟩
theorem square_w (s r m:ByteArray) (is:Bool) (e1:(m.toList == s.toList)=is) (h1:CR 97 #[.string s] (.string r)) (h2:CR 44 #[.string r,.string r] (.string m)) (w:World) (R:EnvR w) :
   Calls Tryz.prog 50 #[.string s] w (Ret w (.tuple #[.string r,.bool is])):=by
 have C1:=Lib.hid h1
 have C2:=Lib.hid h2
 clear h1 h2
 have hb:=Below.refl w.heap.size w
 go_enter Tryz.func50,Tryz.ntmps50
 go_wp2_with ((first | (go_at_call 97;with_reducible refine (chRA hb R C1).mono ?_) | (go_at_call 44;with_reducible refine (chRA hb R C2).mono ?_));clear hb;rintro e w1 ⟨rfl,hb⟩)
 go_ret2
 exact ⟨rfl,hb⟩
theorem square_any (a:Nat) (ha:dlen (a:Int)≤1000) (w:World) (R:EnvR w) :
   Calls Tryz.prog 50 #[.string (itoaB (a:Int))] w (Ret w (.tuple #[.string (itoaB (rootN a:Int)),.bool (sqN a)])):=by
 have hr:=rootN_dlen a 1000 (by decide) ha
 refine square_w _ _ (itoaB ((rootN a:Int)*(rootN a:Int))) _ ?_ (fun w R=>refRoot_big a w R.env ha) (fun w R=>refMul_any _ _ w R.env (by omega) (by omega)) w R
 rw [text_dec]
 unfold sqN
 refine decide_eq_decide.2 ⟨fun h=>?_,fun h=>?_⟩
 · have:=itoa_inj h
   rw [← Int.natCast_mul] at this
   omega
 · rw [← Int.natCast_mul,h]
theorem make3_w (a b g x y u v:ByteArray) (m:Bool) (e1:(y.toList == [49])=m) (z1:x.size≤100000) (z2:y.size≤100000) (h1:CR 52 #[.string a,.string b] (.string g))
   (h2:CR 78 #[.string a,.string g] (.tuple #[.string x,.string u]))
   (h3:CR 78 #[.string b,.string g] (.tuple #[.string y,.string v])) (w:World) (R:EnvR w) :
   Calls Tryz.prog 36 #[.string a,.string b] w (Ret w (.string (if m then x else x ++ ⟨#[47]⟩ ++ y))):=by
 have zz:(x ++ ⟨#[47]⟩:ByteArray).size=x.size+1:=by rw [ByteArray.size_append];rfl
 have C1:=Lib.hid h1
 have C2:=Lib.hid h2
 have C3:=Lib.hid h3
 clear h1 h2 h3
 have hb:=Below.refl w.heap.size w
 cases m with
 | true =>
   go_enter Tryz.func36,Tryz.ntmps36
   go_wp2_with ((first | (go_at_call 52;with_reducible refine (chRA hb R C1).mono ?_) | (go_at_call 78;first | with_reducible refine (chRA hb R C2).mono ?_ | with_reducible refine (chRA hb R C3).mono ?_));clear hb;rintro e w1 ⟨rfl,hb⟩)
   go_ret
   exact ⟨rfl,hb⟩
 | false =>
   go_enter Tryz.func36,Tryz.ntmps36
   go_wp2_with ((first | (go_at_call 52;with_reducible refine (chRA hb R C1).mono ?_) | (go_at_call 78;first | with_reducible refine (chRA hb R C2).mono ?_ | with_reducible refine (chRA hb R C3).mono ?_));clear hb;rintro e w1 ⟨rfl,hb⟩)
   go_ret
   exact ⟨rfl,hb⟩
theorem make3_any (n d:Int) (hd:0 < d) (hn:dlen n≤2000) (hdl:dlen d≤2000) (w:World) (R:EnvR w) :
   Calls Tryz.prog 36 #[.string (itoaB n),.string (itoaB d)] w (Ret w (.string (ratB (Rat.divInt n d)))):=by
 obtain ⟨m1,m2⟩:=mk_parts n d hd
 obtain ⟨g,hg⟩:∃ g,Nat.gcd n.natAbs d.natAbs=g:=⟨_,rfl⟩
 have hg0:0 < g:=by rw [← hg];exact Nat.gcd_pos_of_pos_right _ (by omega)
 have hgd:dlen (g:Int)≤2000:=by rw [← hg];exact dlen_gcd n d 2000 (by decide) hd hdl
 rw [hg] at m1 m2
 have dx:dlen (n / (g:Int))≤2000:=dlen_div n g 2000 (by decide) hn (by rw [← hg];exact Int.ofNat_dvd_left.2 (Nat.gcd_dvd_left _ _))
 have dy:dlen (d / (g:Int))≤2000:=dlen_div d g 2000 (by decide) hdl (by rw [← hg];exact Int.ofNat_dvd_left.2 (Nat.gcd_dvd_right _ _))
 have e1:((itoaB (d / (g:Int))).toList == [49])=decide ((Rat.divInt n d).den=1):=by
   have:=text_dec (itoaB (d / (g:Int))) ⟨#[49]⟩
   rw [one_list] at this
   rw [this]
   refine decide_eq_decide.2 ⟨fun h=>?_,fun h=>?_⟩
   · have:=itoa_inj (h.trans itoa_one.symm);omega
   · rw [← m2,h];exact itoa_one
 have z1:=sItoa_size (n / (g:Int))
 have z2:=sItoa_size (d / (g:Int))
 have:=make3_w (itoaB n) (itoaB d) (itoaB (g:Int)) (itoaB (n / (g:Int))) (itoaB (d / (g:Int))) (itoaB (n % (g:Int))) (itoaB (d % (g:Int))) _ e1 (by omega) (by omega) (fun w R=>by
     have:=refGcd_any n d w R.env hn hdl
     rwa [hg] at this) (fun w R=>refDivMod_any n g w R.env (by omega) (by omega) (by omega)) (fun w R=>refDivMod_any d g w R.env (by omega) (by omega) (by omega)) w R
 refine this.mono fun e w' h=>⟨h.1.trans ?_,h.2⟩
 by_cases h1:(Rat.divInt n d).den=1
 · rw [decide_eq_true h1,if_pos rfl,ratB_int h1,m1]
 · rw [decide_eq_false h1,if_neg (by decide),ratB_more h1,m1,m2]
theorem parts3_whole (s:ByteArray) (r:Bool) (hs:s.size≤100000) (hno:∀ k (h:k < s.size),s[k]≠47) (h1:CR 51 #[.string s] (.bool r)) (w:World) (R:EnvR w) :
   Calls Tryz.prog 19 #[.string s] w (Ret w (.tuple #[.string s,.string ⟨#[49]⟩,.bool r])):=by
 have C1:=Lib.hid h1
 have HNO:=Lib.hid hno
 clear h1 hno
 have hb:=Below.refl w.heap.size w
 go_enter Tryz.func19,Tryz.ntmps19
 go_wp2
 go_loop [6,7] (fun at' i=>∃ k:Nat,k≤s.size∧i = .int .i64 k∧at' = .int .i64 (-1)) (fun _ i=>s.size - (intOf i).toNat)
 case atStart=>exact ⟨0,Nat.zero_le _,rfl,rfl⟩
 case round =>
   obtain ⟨k,hk,rfl,rfl⟩:=hrel
   by_cases hlt:k < s.size
   · have e1:((s[k].toNat:Int) == 47)=false:=byte_ne (d:=47) rfl (HNO.out k hlt)
     go_wp2
     go_round
     case rel=>exact ⟨k+1,by omega,by go_num,rfl⟩
     case measure=>simp [intOf];omega
   · go_wp2_with (go_at_call 51;(with_reducible refine (chain hb (C1.out _ (R.below hb))).mono ?_);clear hb;rintro e w1 ⟨rfl,hb⟩)
     go_ret3
     exact ⟨rfl,hb⟩
def atI (M k:Nat):Int:=if k≤M then -1 else M
theorem parts3_frac (s a b g:ByteArray) (M:Nat) (r1 r2 r:Bool) (o:Int) (hs:s.size≤100000) (hM:M < s.size) (h47:s[M]=47) (hno:∀ k (h:k < s.size),k < M→s[k]≠47) (ha:s.extract 0 M=a) (hbx:s.extract (M+1) s.size=b)
   (hr:r=(r1 && (r2 && (decide (0 < o) && (g.toList == [49]))))) (h1:CR 51 #[.string a] (.bool r1))
   (h2:CR 51 #[.string b] (.bool r2))
   (h3:r1=true→r2=true→CR 43 #[.string b,.string ⟨#[49]⟩] (.int .i64 o))
   (h4:r1=true→r2=true→0 < o→CR 52 #[.string a,.string b] (.string g)) (w:World) (R:EnvR w) :
   Calls Tryz.prog 19 #[.string s] w (Ret w (.tuple #[.string a,.string b,.bool r])):=by
 have C1:=Lib.hid h1
 have C2:=Lib.hid h2
 have C3:=Lib.hid h3
 have C4:=Lib.hid h4
 have HNO:=Lib.hid hno
 have HR:=Lib.hid hr
 have H47:=Lib.hid h47
 clear h1 h2 h3 h4 hno hr h47
 have hb:=Below.refl w.heap.size w
 have m1:(M:Int) < (s.size:Int):=by omega
 have m2:¬ (M:Int) < 0:=by omega
 have wM:IntKind.i64.wrap ((M:Int)+1)=((M+1:Nat):Int):=by rw [Int.natCast_add];exact IntWalk.i64_in _ (by omega)
 go_enter Tryz.func19,Tryz.ntmps19
 go_wp2
 go_loop [6,7] (fun at' i=>∃ k:Nat,k≤s.size∧i = .int .i64 k∧at' = .int .i64 (atI M k)) (fun _ i=>s.size - (intOf i).toNat)
 case atStart=>exact ⟨0,Nat.zero_le _,rfl,rfl⟩
 case round =>
   obtain ⟨k,hk,rfl,rfl⟩:=hrel
   by_cases hlt:k < s.size
   · rcases Nat.lt_trichotomy k M with h | h | h
     · have e1:((s[k].toNat:Int) == 47)=false:=byte_ne (d:=47) rfl (HNO.out k hlt h)
       have a1:atI M k = -1:=if_pos (by omega)
       have a2:atI M (k+1) = -1:=if_pos (by omega)
       rw [a1]
       go_wp2
       go_round
       case rel=>exact ⟨k+1,by omega,by go_num,by rw [a2]⟩
       case measure=>simp [intOf];omega
     · subst h
       have e1:((s[k].toNat:Int) == 47)=true:=byte_eq (d:=47) rfl H47.out
       have a1:atI k k = -1:=if_pos (Nat.le_refl _)
       have a2:atI k (k+1)=k:=if_neg (by omega)
       rw [a1]
       go_wp2
       go_round
       case rel=>exact ⟨k+1,by omega,by go_num,by rw [a2]⟩
       case measure=>simp [intOf];omega
     · have a1:atI M k=M:=if_neg (by omega)
       have a2:atI M (k+1)=M:=if_neg (by omega)
       rw [a1]
       cases e1:((s[k].toNat:Int) == 47) with
       | true =>
         go_wp2
         go_round
         case rel=>exact ⟨k+1,by omega,by go_num,by rw [a2]⟩
         case measure=>simp [intOf];omega
       | false =>
         go_wp2
         go_round
         case rel=>exact ⟨k+1,by omega,by go_num,by rw [a2]⟩
         case measure=>simp [intOf];omega
   · have hks:k=s.size:=by omega
     subst hks
     have a1:atI M s.size=M:=if_neg (by omega)
     rw [a1]
     have m3:(0:Int)≤(M:Int):=by omega
     have m4:(M:Int)≤(s.size:Int):=by omega
     have m5:((M+1:Nat):Int)≤(s.size:Int):=by omega
     go_upto_region 10 with fail
     go_quiet (fail)
     replace hb:=Below.drews hb nq
     cases r1 with
     | false =>
       go_wp2_with (go_at_call 51;with_reducible refine (chRA hb R C1).mono ?_;clear hb;rintro e w1 ⟨rfl,hb⟩)
       go_ret3
       exact ⟨congrArg Ending.returned (by rw [HR.out];rfl),hb⟩
     | true =>
       cases r2 with
       | false =>
         go_wp2_with ((go_at_call 51;first | with_reducible refine (chRA hb R C1).mono ?_ | with_reducible refine (chRA hb R C2).mono ?_);clear hb;rintro e w1 ⟨rfl,hb⟩)
         go_ret3
         exact ⟨congrArg Ending.returned (by rw [HR.out];rfl),hb⟩
       | true =>
         replace C3:=Lib.hid (C3.out rfl rfl)
         by_cases ho:0 < o
         · have hod:decide (0 < o)=true:=decide_eq_true ho
           replace C4:=Lib.hid (C4.out rfl rfl ho)
           go_wp2_with ((first | (go_at_call 51;first | with_reducible refine (chRA hb R C1).mono ?_ | with_reducible refine (chRA hb R C2).mono ?_) | (go_at_call 43;with_reducible refine (chRA hb R C3).mono ?_) | (go_at_call 52;with_reducible refine (chRA hb R C4).mono ?_));clear hb;rintro e w1 ⟨rfl,hb⟩)
           go_ret3
           exact ⟨congrArg Ending.returned (by rw [HR.out,hod];rfl),hb⟩
         · have hod:decide (0 < o)=false:=decide_eq_false ho
           go_wp2_with ((first | (go_at_call 51;first | with_reducible refine (chRA hb R C1).mono ?_ | with_reducible refine (chRA hb R C2).mono ?_) | (go_at_call 43;with_reducible refine (chRA hb R C3).mono ?_));clear hb;rintro e w1 ⟨rfl,hb⟩)
           go_ret3
           exact ⟨congrArg Ending.returned (by rw [HR.out,hod];rfl),hb⟩
theorem split47 {s:ByteArray} {a b:List UInt8} (h:s.data.toList=a ++ 47 :: b):s.extract 0 a.length=strOf a∧s.extract (a.length+1) s.size=strOf b∧∃ hk:a.length < s.size,s[a.length]=47:=by
 have hl:s.size=a.length+1+b.length:=by rw [size_len,h,List.length_append,List.length_cons];omega
 refine ⟨(str_split h).1,(str_split h).2,by omega,?_⟩
 have:=Lib.data_getElem? s a.length (by omega)
 rw [h] at this
 simpa using this.symm
theorem byte_at {s:ByteArray} {a b:List UInt8} (h:s.data.toList=a ++ 47 :: b) (hn:(47:UInt8) ∉ a):∀ k (hk:k < s.size),k < a.length→s[k]≠47:=fun k hk hka e=>by
 have:=Lib.data_getElem? s k hk
 rw [h,List.getElem?_append_left hka,e] at this
 exact hn (List.mem_of_getElem? this)
theorem byte_no {s:ByteArray} (hn:(47:UInt8) ∉ s.data.toList):∀ k (hk:k < s.size),s[k]≠47:=fun k hk e=>by
 have:=Lib.data_getElem? s k hk
 rw [e] at this
 exact hn (List.mem_of_getElem? this)
theorem cmp_one (y:Int) (hy:dlen y≤200) (w:World) (R:EnvR w) :
   Calls Tryz.prog 43 #[.string (itoaB y),.string ⟨#[49]⟩] w (Ret w (.int .i64 (y - 1).sign)):=by
 have:=refCompare_any y 1 w R.env (by omega) (by decide +kernel)
 rwa [show itoaB 1=⟨#[49]⟩ by decide +kernel] at this
theorem itoa_one3 (n:Nat):((itoaB (n:Int)).toList == [49])=decide (n=1):=by
 have e1:(itoaB (n:Int)).toList=Lib.itoa (n:Int):=Lib.toList_data _
 rw [e1]
 by_cases h:n=1
 · subst h;decide +kernel
 · rw [decide_eq_false h,beq_eq_false_iff_ne]
   intro e
   have:=itoaS_inj (x:=(n:Int)) (y:=1) (by rw [e];decide +kernel)
   omega
theorem parts_slash (s:ByteArray) (a b:List UInt8) (hs:s.size≤100000) (e:s.data.toList=a ++ 47 :: b) (hn:(47:UInt8) ∉ a) (x y:Int) (ha:strOf a=itoaB x) (hb:strOf b=itoaB y) (dx:dlen x≤200) (dy:dlen y≤200) (r:Bool) (hr:r=(decide (1 < y) && decide (Nat.gcd x.natAbs y.natAbs=1))) (w:World) (R:EnvR w) :
   Calls Tryz.prog 19 #[.string s] w (Ret w (.tuple #[.string (itoaB x),.string (itoaB y),.bool r])):=by
 obtain ⟨h1,h2,hM,h47⟩:=split47 e
 have hl:s.size=a.length+1+b.length:=by rw [size_len,e,List.length_append,List.length_cons];omega
 have r1:rightB a=true:=rightB_iff.2 ⟨x,by have:=congrArg (·.data.toList) ha;exact this,dx⟩
 have r2:rightB b=true:=rightB_iff.2 ⟨y,by have:=congrArg (·.data.toList) hb;exact this,dy⟩
 have k1:=fun w R=>right_tt r1 (by omega) w R
 have k2:=fun w R=>right_tt r2 (by omega) w R
 rw [ha] at k1 h1
 rw [hb] at k2 h2
 refine parts3_frac s (itoaB x) (itoaB y) (itoaB (Nat.gcd x.natAbs y.natAbs:Nat)) a.length true true r (y - 1).sign hs hM h47 (byte_at e hn) h1 h2 ?_ k1 k2 (fun _ _ w R=>cmp_one y dy w R) (fun _ _ _ w R=>refGcd_any x y w R.env (by omega) (by omega)) w R
 rw [hr,itoa_one3,Bool.true_and,Bool.true_and]
 congr 1
 rw [decide_eq_decide,Int.sign_pos_iff]
 omega
theorem parts_rat (q:Rat) (hq:RL q 200) (w:World) (R:EnvR w) :
   Calls Tryz.prog 19 #[.string (ratB q)] w (Ret w (.tuple #[.string (itoaB q.num),.string (itoaB q.den),.bool true])):=by
 have hz:=size_of_RL hq
 by_cases h:q.den=1
 · have e1:=ratB_int h
   have k:=parts3_whole (ratB q) true (by omega) (byte_no (by rw [e1];exact nos_itoa _)) (fun w R=>right_any _ w (by omega) true (by rw [e1];exact rightB_iff.2 ⟨q.num,rfl,hq.1⟩)) w R
   rw [e1] at k ⊢
   rw [h,show itoaB ((1:Nat):Int)=⟨#[49]⟩ by decide +kernel]
   exact k
 · have hd:=q.den_pos
   refine parts_slash (ratB q) (Lib.itoa q.num) (Lib.itoa q.den) (by omega) (ratS_frac h) (nos_itoa _) q.num q.den rfl rfl hq.1 hq.2 true ?_ w R
   have hr:Nat.gcd q.num.natAbs (q.den:Int).natAbs=1:=q.reduced
   rw [decide_eq_true hr,decide_eq_true (show (1:Int) < (q.den:Int) by omega)];rfl
end Go.Proofs.YtpphjnekkjeacaaGreatDoor.Kl
/- The reference of layer 3: Times, Plus, Alike. -/
namespace Go.Proofs.YtpphjnekkjeacaaGreatDoor.Kl
open Go Go.RowKit
set_option maxRecDepth 100000 in
set_option maxHeartbeats 400000 in
theorem times3_w (a b m n p q u v r:ByteArray) (h1:∀ w,EnvR w→Calls Tryz.prog 19 #[.string a] w fun e w' => e = .returned (.tuple #[.string m,.string n,.bool true])∧Below w.heap.size w w') (h2:∀ w,EnvR w→Calls Tryz.prog 19 #[.string b] w fun e w' => e = .returned (.tuple #[.string p,.string q,.bool true])∧Below w.heap.size w w') (h3:∀ w,EnvR w→Calls Tryz.prog 44 #[.string m,.string p] w fun e w' => e = .returned (.string u)∧Below w.heap.size w w') (h4:∀ w,EnvR w→Calls Tryz.prog 44 #[.string n,.string q] w fun e w' => e = .returned (.string v)∧Below w.heap.size w w') (h5:∀ w,EnvR w→Calls Tryz.prog 36 #[.string u,.string v] w fun e w' => e = .returned (.string r)∧Below w.heap.size w w') (w:World) (R:EnvR w) :
    Calls Tryz.prog 40 #[.string a,.string b] w fun e w' => e = .returned (.string r)∧Below w.heap.size w w':=by
  have C1:=Lib.hid h1
  have C2:=Lib.hid h2
  have C3:=Lib.hid h3
  have C4:=Lib.hid h4
  have C5:=Lib.hid h5
  clear h1 h2 h3 h4 h5
  have hb:=Below.refl w.heap.size w
  go_enter Tryz.func40,Tryz.ntmps40
  go_wp2_with (first | (go_at_call 19;first | ((with_reducible refine (chain hb (C1.out _ (R.below hb))).mono ?_);clear hb;rintro e w1 ⟨rfl,hb⟩) | ((with_reducible refine (chain hb (C2.out _ (R.below hb))).mono ?_);clear hb;rintro e w1 ⟨rfl,hb⟩)) | (go_at_call 44;first | ((with_reducible refine (chain hb (C3.out _ (R.below hb))).mono ?_);clear hb;rintro e w1 ⟨rfl,hb⟩) | ((with_reducible refine (chain hb (C4.out _ (R.below hb))).mono ?_);clear hb;rintro e w1 ⟨rfl,hb⟩)) | (go_at_call 36;(with_reducible refine (chain hb (C5.out _ (R.below hb))).mono ?_);clear hb;rintro e w1 ⟨rfl,hb⟩))
  go_ret
  exact ⟨rfl,hb⟩
set_option maxRecDepth 100000 in
set_option maxHeartbeats 400000 in
theorem plus3_w (a b m n p q u v s d r:ByteArray) (h1:∀ w,EnvR w→Calls Tryz.prog 19 #[.string a] w fun e w' => e = .returned (.tuple #[.string m,.string n,.bool true])∧Below w.heap.size w w') (h2:∀ w,EnvR w→Calls Tryz.prog 19 #[.string b] w fun e w' => e = .returned (.tuple #[.string p,.string q,.bool true])∧Below w.heap.size w w') (h3:∀ w,EnvR w→Calls Tryz.prog 44 #[.string m,.string q] w fun e w' => e = .returned (.string u)∧Below w.heap.size w w') (h4:∀ w,EnvR w→Calls Tryz.prog 44 #[.string p,.string n] w fun e w' => e = .returned (.string v)∧Below w.heap.size w w') (h5:∀ w,EnvR w→Calls Tryz.prog 31 #[.string u,.string v] w fun e w' => e = .returned (.string s)∧Below w.heap.size w w') (h6:∀ w,EnvR w→Calls Tryz.prog 44 #[.string n,.string q] w fun e w' => e = .returned (.string d)∧Below w.heap.size w w') (h7:∀ w,EnvR w→Calls Tryz.prog 36 #[.string s,.string d] w fun e w' => e = .returned (.string r)∧Below w.heap.size w w') (w:World) (R:EnvR w) :
    Calls Tryz.prog 59 #[.string a,.string b] w fun e w' => e = .returned (.string r)∧Below w.heap.size w w':=by
  have C1:=Lib.hid h1
  have C2:=Lib.hid h2
  have C3:=Lib.hid h3
  have C4:=Lib.hid h4
  have C5:=Lib.hid h5
  have C6:=Lib.hid h6
  have C7:=Lib.hid h7
  clear h1 h2 h3 h4 h5 h6 h7
  have hb:=Below.refl w.heap.size w
  go_enter Tryz.func59,Tryz.ntmps59
  go_wp2_with (first | (go_at_call 19;first | ((with_reducible refine (chain hb (C1.out _ (R.below hb))).mono ?_);clear hb;rintro e w1 ⟨rfl,hb⟩) | ((with_reducible refine (chain hb (C2.out _ (R.below hb))).mono ?_);clear hb;rintro e w1 ⟨rfl,hb⟩)) | (go_at_call 44;first | ((with_reducible refine (chain hb (C3.out _ (R.below hb))).mono ?_);clear hb;rintro e w1 ⟨rfl,hb⟩) | ((with_reducible refine (chain hb (C4.out _ (R.below hb))).mono ?_);clear hb;rintro e w1 ⟨rfl,hb⟩) | ((with_reducible refine (chain hb (C6.out _ (R.below hb))).mono ?_);clear hb;rintro e w1 ⟨rfl,hb⟩)) | (go_at_call 31;(with_reducible refine (chain hb (C5.out _ (R.below hb))).mono ?_);clear hb;rintro e w1 ⟨rfl,hb⟩) | (go_at_call 36;(with_reducible refine (chain hb (C7.out _ (R.below hb))).mono ?_);clear hb;rintro e w1 ⟨rfl,hb⟩))
  go_ret
  exact ⟨rfl,hb⟩
set_option maxRecDepth 100000 in
set_option maxHeartbeats 400000 in
theorem alike3_w (a b u r:ByteArray) (is:Bool) (h1:∀ w,EnvR w→Calls Tryz.prog 44 #[.string a,.string b] w fun e w' => e = .returned (.string u)∧Below w.heap.size w w') (h2:∀ w,EnvR w→Calls Tryz.prog 50 #[.string u] w fun e w' => e = .returned (.tuple #[.string r,.bool is])∧Below w.heap.size w w') (w:World) (R:EnvR w) :
    Calls Tryz.prog 58 #[.string a,.string b] w fun e w' => e = .returned (.tuple #[.string r,.bool is])∧Below w.heap.size w w':=by
  have C1:=Lib.hid h1
  have C2:=Lib.hid h2
  clear h1 h2
  have hb:=Below.refl w.heap.size w
  go_enter Tryz.func58,Tryz.ntmps58
  go_wp2_with (first | (go_at_call 44;(with_reducible refine (chain hb (C1.out _ (R.below hb))).mono ?_);clear hb;rintro e w1 ⟨rfl,hb⟩) | (go_at_call 50;(with_reducible refine (chain hb (C2.out _ (R.below hb))).mono ?_);clear hb;rintro e w1 ⟨rfl,hb⟩))
  go_ret2
  exact ⟨rfl,hb⟩
theorem alike3_any (a b:Nat) (ha:dlen (a:Int)≤400) (hb:dlen (b:Int)≤400) (w:World) (R:EnvR w) :
    Calls Tryz.prog 58 #[.string (itoaB (a:Int)),.string (itoaB (b:Int))] w fun e w' => e = .returned (.tuple #[.string (itoaB (rootN (a*b):Int)),.bool (sqN (a*b))])∧Below w.heap.size w w':=by
  have h1:=fun w (R:EnvR w)=>refMul_any (a:Int) (b:Int) w R.env (by omega) (by omega)
  rw [← Int.natCast_mul] at h1
  exact alike3_w _ _ _ _ _ h1 (fun w R=>square_any (a*b) (by have:=dlen_natc a b 400 400 (by decide) ha hb;omega) w R) w R
theorem times3_any (x y:Rat) (hx:RL x 200) (hy:RL y 200) (w:World) (R:EnvR w) :
    Calls Tryz.prog 40 #[.string (ratB x),.string (ratB y)] w fun e w' => e = .returned (.string (ratB (x*y)))∧Below w.heap.size w w':=by
  have hd:=x.den_pos
  have he:=y.den_pos
  have hm:=dlen_mul x.num y.num 200 200 (by decide) hx.1 hy.1
  have hn:=dlen_natc x.den y.den 200 200 (by decide) hx.2 hy.2
  have h5:=fun w R=>make3_any (x.num*y.num) ((x.den*y.den:Nat):Int) (by have:=Nat.mul_pos hd he;omega) (by omega) (by omega) w R
  rw [mul_mk] at h5
  have h4:=fun w (R:EnvR w)=>refMul_any (x.den:Int) (y.den:Int) w R.env (by have:=hx.2;omega) (by have:=hy.2;omega)
  rw [← Int.natCast_mul] at h4
  exact times3_w _ _ _ _ _ _ _ _ _ (parts_rat x hx) (parts_rat y hy) (fun w R=>refMul_any _ _ w R.env (by have:=hx.1;omega) (by have:=hy.1;omega)) h4 h5 w R
theorem plus3_any (x y:Rat) (hx:RL x 200) (hy:RL y 200) (w:World) (R:EnvR w) :
    Calls Tryz.prog 59 #[.string (ratB x),.string (ratB y)] w fun e w' => e = .returned (.string (ratB (x+y)))∧Below w.heap.size w w':=by
  have hd:=x.den_pos
  have he:=y.den_pos
  have hm:=dlen_mul x.num (y.den:Int) 200 200 (by decide) hx.1 hy.2
  have hk:=dlen_mul y.num (x.den:Int) 200 200 (by decide) hy.1 hx.2
  have hn:=dlen_natc x.den y.den 200 200 (by decide) hx.2 hy.2
  have hs:=dlen_add _ _ 400 (by decide) hm hk
  have h7:=fun w R=>make3_any (x.num*y.den+y.num*x.den) ((x.den*y.den:Nat):Int) (by have:=Nat.mul_pos hd he;omega) (by omega) (by omega) w R
  rw [add_mk] at h7
  have h6:=fun w (R:EnvR w)=>refMul_any (x.den:Int) (y.den:Int) w R.env (by have:=hx.2;omega) (by have:=hy.2;omega)
  rw [← Int.natCast_mul] at h6
  exact plus3_w _ _ _ _ _ _ _ _ _ _ _ (parts_rat x hx) (parts_rat y hy) (fun w R=>refMul_any _ _ w R.env (by have:=hx.1;omega) (by have:=hy.2;omega)) (fun w R=>refMul_any _ _ w R.env (by have:=hy.1;omega) (by have:=hx.2;omega)) (fun w R=>refAdd_any _ _ w R.env (by omega) (by omega)) h6 h7 w R
end Go.Proofs.YtpphjnekkjeacaaGreatDoor.Kl
/- The reference of layer 3: insert. -/
namespace Go.Proofs.YtpphjnekkjeacaaGreatDoor.Kl
open Go Go.RowKit
def insF (t:Tm) (a:List Tm × Bool) (u:Tm):List Tm × Bool:=(if !a.2 && decide (t.2 < u.2) then a.1 ++ [t] ++ [u] else a.1 ++ [u],a.2 || decide (t.2 < u.2))
def insG (t:Tm) (ts:List Tm):List Tm × Bool:=ts.foldl (insF t) ([],false)
def insL (t:Tm) (ts:List Tm):List Tm:=if (insG t ts).2 then (insG t ts).1 else (insG t ts).1 ++ [t]
theorem insG_snoc (t u:Tm) (ts:List Tm):insG t (ts ++ [u])=insF t (insG t ts) u:=by unfold insG;rw [List.foldl_append];rfl
theorem insF_len (t:Tm):∀ (ts:List Tm) (a:List Tm × Bool),(ts.foldl (insF t) a).1.length+a.2.toNat=a.1.length+ts.length+(ts.foldl (insF t) a).2.toNat
  | [],a=>by simp
  | u :: ts,a=>by
    have ih:=insF_len t ts (insF t a u)
    rw [List.foldl_cons,List.length_cons]
    obtain ⟨o,d⟩:=a
    cases d <;> by_cases h:t.2 < u.2 <;> simp [insF,h] at ih ⊢ <;> omega
theorem insG_len (t:Tm) (ts:List Tm):(insG t ts).1.length=ts.length+(insG t ts).2.toNat:=by
  have:=insF_len t ts ([],false)
  simpa [insG] using this
set_option maxRecDepth 100000 in
set_option maxHeartbeats 1000000 in
theorem insert_any (p:Option Addr) (n c:Nat) (ts:List Tm) (t:Tm) (hn:n=ts.length) (hm:n≤1000) (ht:dlen (t.2:Int)≤400) (hu:∀ u ∈ ts,dlen (u.2:Int)≤400) (w:World) (R:EnvR w) (h:HasT w p ts) :
    Calls Tryz.prog 60 #[.slice p n c,.agg #[.string (ratB t.1),.string (itoaB (t.2:Int))]] w (RetL w (insL t ts)):=by
  obtain ⟨i0,hi,hz0,hz1,hz2⟩:=info_parts infoRT
  have H:=Lib.hid h
  have HN:=Lib.hid hn
  have HU:=Lib.hid hu
  have HT:=Lib.hid ht
  clear h hn hu ht
  obtain ⟨s,hs⟩:∃ v,ratB t.1=v:=⟨_,rfl⟩
  obtain ⟨rb,hrb⟩:∃ v,itoaB (t.2:Int)=v:=⟨_,rfl⟩
  rw [hs,hrb]
  have HS:=Lib.hid hs
  have HRB:=Lib.hid hrb
  clear hs hrb
  go_enter Tryz.func60,Tryz.ntmps60
  go_upto_region 1 with fail
  refine wp_alloc1 (fun wa h0 hba=>?_)
  obtain ⟨B,hB⟩:∃ B,w.heap.size=B:=⟨_,rfl⟩
  have hBa:B < wa.heap.size:=by rw [← hB];exact blk_lt h0
  rw [hB] at h0 ⊢
  have H0:=Lib.hid h0
  have HBA:=Lib.hid hba
  have HA:=Lib.hid (H.out.below hba)
  clear h0 hba hB
  have RA:=R.below HBA.out
  go_wp2
  go_loopw [5,6,7] (fun v d i wr=>∃ k:Nat,k≤n∧i = .int .i64 k∧d = .bool (insG t (ts.take k)).2∧wr.ownsRow wa.heap.size 39 2 v (insG t (ts.take k)).1.length (cellsL (insG t (ts.take k)).1)∧Below wa.heap.size wa wr) (fun _ _ i _=>n - (intOf i).toNat)
  case atStart=>exact ⟨0,Nat.zero_le _,rfl,rfl,World.ownsRow_nil _ _ _ _,Below.refl _ _⟩
  case round =>
    obtain ⟨k,hk,rfl,rfl,hown,hb⟩:=hrel
    by_cases hlt:k < n
    · obtain ⟨u,hu⟩:∃ u,ts[k]? = some u:=⟨_,List.getElem?_eq_getElem (by rw [← HN.out];exact hlt)⟩
      obtain ⟨b,rfl,c0,c1⟩:=HA.out k u hu
      have x0:wr.cell? ⟨b,k*2,none⟩=some (.string (ratB u.1)):=zC hb c0
      have x1:wr.cell? ⟨b,k*2+1,none⟩=some (.string (itoaB (u.2:Int))):=zC hb c1
      have hba2:b < wa.heap.size:=Lib.lt_of_cell c0
      have y0:wr.cell? ⟨B,0,none⟩=some (.string s):=zC hb (blk_cell H0.out 0 rfl)
      have y1:wr.cell? ⟨B,1,none⟩=some (.string rb):=zC hb (blk_cell H0.out 1 rfl)
      have hsn:insG t (ts.take (k+1))=insF t (insG t (ts.take k)) u:=by rw [List.take_add_one,hu];exact insG_snoc t u _
      have hln:=insG_len t (ts.take k)
      rw [List.length_take,Nat.min_eq_left (by have:=HN.out;omega)] at hln
      have kc:∀ w,EnvR w→Calls Tryz.prog 43 #[.string rb,.string (itoaB (u.2:Int))] w fun e w' => e = .returned (.int .i64 ((t.2:Int) - (u.2:Int)).sign)∧Below w.heap.size w w':=fun w R=>by
        rw [← HRB.out]
        exact refCompare_any _ _ w R.env (by have:=HT.out;omega) (by have:=HU.out u (List.mem_of_getElem? hu);omega)
      obtain ⟨us,hus⟩:∃ v,ratB u.1=v:=⟨_,rfl⟩
      obtain ⟨ur,hur⟩:∃ v,itoaB (u.2:Int)=v:=⟨_,rfl⟩
      have eu:cellsT u=[.string us,.string ur]:=by rw [← hus,← hur];rfl
      have et:cellsT t=[.string s,.string rb]:=by rw [← HS.out,← HRB.out];rfl
      rw [hus] at x0 c0
      rw [hur] at x1 kc c1
      have C0:=Lib.hid c0
      have C1:=Lib.hid c1
      obtain ⟨⟨o,d⟩,hod⟩:∃ g,insG t (ts.take k)=g:=⟨_,rfl⟩
      rw [hod] at hsn hown hln
      change wr.ownsRow wa.heap.size 39 2 _ o.length (cellsL o) at hown
      change o.length=k+d.toNat at hln
      rw [hod]
      have HSN:=Lib.hid hsn
      have KC:=Lib.hid kc
      have EU:=Lib.hid eu
      have ET:=Lib.hid et
      clear hus hur c0 c1 hu hsn kc eu et hod
      have h1:(k:Int) < (n:Int):=by omega
      have h2:(0:Int)≤(k:Int):=by omega
      cases d with
      | true =>
        have hol:o.length=k+1:=hln
        go_upto_region 6 with fail
        go_quiet (fail)
        have hbq:=below_drewN wr nq
        obtain ⟨wq,hwq⟩:∃ wq,wr.drewN nq=wq:=⟨_,rfl⟩
        rw [hwq] at hbq ⊢
        clear hwq
        replace x0:=zC hbq x0
        replace x1:=zC hbq x1
        replace y0:=zC hbq y0
        replace y1:=zC hbq y1
        replace hown:=own_below hown hbq
        replace hb:=hb.trans (hbq.mono hb.size)
        have hsz:=hb.size
        clear hbq
        go_wp2_with (at_builtin;(refine wpList_append_own _ rfl _ _ 30 rfl wa.heap.size 39 i0 (.agg #[.string ⟨#[]⟩,.string ⟨#[]⟩]) 2 32 Tryz.underlying30 hi hz0 hz1 hz2 rfl (by decide) _ _ _ rfl (hown.alloc _) ⟨wq.heap.size,0,none⟩ 1 1 [.string us,.string ur] rfl rfl (newsT _ _ _ _) (by simp [Value.oneCell']) (by unfold maxLen;omega) (by omega) (by simp;omega) ?_;intro v3 w3 hown3 hgrow3 _))
        have hbw:=(hb.alloc hsz (Obj.cells #[Value.string us,Value.string ur] 39)).grown hgrow3 (by simp;omega) (fun j hj=>(hown.lt j hj).1)
        go_roundw
        case rel =>
          exact ⟨k+1,by omega,by go_num,by rw [HSN.out];rfl,by rw [HSN.out];first | exact hown3 | (simp only [insF,Bool.not_true,Bool.false_and,if_false,Bool.false_eq_true,cellsL_snoc,EU.out,List.length_append,List.length_singleton];exact hown3),hbw⟩
        case measure=>simp [intOf];omega
      | false =>
        have hol:o.length=k:=hln
        by_cases hc:t.2 < u.2
        · have hlt2:decide (t.2 < u.2)=true:=decide_eq_true hc
          have kc:=KC.out
          rw [Int.sign_eq_neg_one_of_neg (by omega)] at kc
          replace KC:=Lib.hid kc
          clear kc
          go_upto_region 6 with fail
          have yx0:=cell_regrown x0
          have yx1:=cell_regrown x1
          have yy0:=cell_regrown y0
          have yy1:=cell_regrown y1
          have RR:=Lib.hid (fun d os=>Calls.regrown_of (KC.out (Sort.grow (redrawn wr d) os) (RA.below (hb.trans ((below_regrown wr d os).mono hb.size)))))
          refine wp_region_quiet_below (by first | assumption | kernel_rfl) (by kernel_rfl) ?_
          repeat (quiet_step (first | (with_reducible exact RR.out _ _)))
          refine wpQuiet_nil ?_
          intro _ hw'
          obtain ⟨⟨dq,osq⟩,hw''⟩:=hw'
          subst hw''
          have hbq:=below_regrown wr dq osq
          clear RR yx0 yx1 yy0 yy1
          obtain ⟨wq,hwq⟩:∃ wq,Sort.grow (redrawn wr dq) osq=wq:=⟨_,rfl⟩
          rw [hwq] at hbq ⊢
          clear hwq
          replace x0:=zC hbq x0
          replace x1:=zC hbq x1
          replace y0:=zC hbq y0
          replace y1:=zC hbq y1
          replace hown:=own_below hown hbq
          replace hb:=hb.trans (hbq.mono hb.size)
          have hsz:=hb.size
          clear hbq
          go_wp2_with (first | (at_builtin;(refine wpList_append_own _ rfl _ _ 30 rfl wa.heap.size 39 i0 (.agg #[.string ⟨#[]⟩,.string ⟨#[]⟩]) 2 32 Tryz.underlying30 hi hz0 hz1 hz2 rfl (by decide) _ _ _ rfl (hown.alloc _) ⟨wq.heap.size,0,none⟩ 1 1 [.string s,.string rb] rfl rfl (newsT _ _ _ _) (by simp [Value.oneCell']) (by unfold maxLen;omega) (by omega) (by simp;omega) ?_;intro v2 w2 hown2 hgrow2 _;have hb2:=(hb.alloc hsz (Obj.cells #[Value.string s,Value.string rb] 39)).grown hgrow2 (by simp;omega) (fun j hj=>(hown.lt j hj).1);replace x0:=zC hb2 C0.out;replace x1:=zC hb2 C1.out;have hsz2:=hb2.size;clear hown hgrow2 y0 y1)) | (at_builtin;(refine wpList_append_own _ rfl _ _ 30 rfl wa.heap.size 39 i0 (.agg #[.string ⟨#[]⟩,.string ⟨#[]⟩]) 2 32 Tryz.underlying30 hi hz0 hz1 hz2 rfl (by decide) _ _ _ rfl (hown2.alloc _) ⟨w2.heap.size,0,none⟩ 1 1 [.string us,.string ur] rfl rfl (newsT _ _ _ _) (by simp [Value.oneCell']) (by unfold maxLen;omega) (by omega) (by simp;omega) ?_;intro v3 w3 hown3 hgrow3 _)))
          have hbw:=(hb2.alloc hsz2 (Obj.cells #[Value.string us,Value.string ur] 39)).grown hgrow3 (by simp;omega) (fun j hj=>(hown2.lt j hj).1)
          go_roundw
          case rel =>
            exact ⟨k+1,by omega,by go_num,by rw [HSN.out];first | rfl | (rw [insF];simp [hlt2];done),by rw [HSN.out];first | exact hown3 | (simp only [insF,hlt2,Bool.not_false,Bool.and_true,if_true,cellsL_snoc,ET.out,EU.out,List.length_append,List.length_singleton];exact hown3),hbw⟩
          case measure=>simp [intOf];omega
        · have hge:decide (t.2 < u.2)=false:=decide_eq_false hc
          have hz:0≤((t.2:Int) - (u.2:Int)).sign:=by rw [Int.sign_nonneg_iff];omega
          obtain ⟨z,hzz⟩:∃ z,((t.2:Int) - (u.2:Int)).sign=z:=⟨_,rfl⟩
          have kc:=KC.out
          rw [hzz] at kc hz
          have hz3:¬ z < 0:=by omega
          replace KC:=Lib.hid kc
          clear kc hzz hz
          go_upto_region 6 with fail
          have yx0:=cell_regrown x0
          have yx1:=cell_regrown x1
          have yy0:=cell_regrown y0
          have yy1:=cell_regrown y1
          have RR:=Lib.hid (fun d os=>Calls.regrown_of (KC.out (Sort.grow (redrawn wr d) os) (RA.below (hb.trans ((below_regrown wr d os).mono hb.size)))))
          refine wp_region_quiet_below (by first | assumption | kernel_rfl) (by kernel_rfl) ?_
          repeat (quiet_step (first | (with_reducible exact RR.out _ _)))
          refine wpQuiet_nil ?_
          intro _ hw'
          obtain ⟨⟨dq,osq⟩,hw''⟩:=hw'
          subst hw''
          have hbq:=below_regrown wr dq osq
          clear RR yx0 yx1 yy0 yy1
          obtain ⟨wq,hwq⟩:∃ wq,Sort.grow (redrawn wr dq) osq=wq:=⟨_,rfl⟩
          rw [hwq] at hbq ⊢
          clear hwq
          replace x0:=zC hbq x0
          replace x1:=zC hbq x1
          replace y0:=zC hbq y0
          replace y1:=zC hbq y1
          replace hown:=own_below hown hbq
          replace hb:=hb.trans (hbq.mono hb.size)
          have hsz:=hb.size
          clear hbq
          go_wp2_with (at_builtin;(refine wpList_append_own _ rfl _ _ 30 rfl wa.heap.size 39 i0 (.agg #[.string ⟨#[]⟩,.string ⟨#[]⟩]) 2 32 Tryz.underlying30 hi hz0 hz1 hz2 rfl (by decide) _ _ _ rfl (hown.alloc _) ⟨wq.heap.size,0,none⟩ 1 1 [.string us,.string ur] rfl rfl (newsT _ _ _ _) (by simp [Value.oneCell']) (by unfold maxLen;omega) (by omega) (by simp;omega) ?_;intro v3 w3 hown3 hgrow3 _))
          have hbw:=(hb.alloc hsz (Obj.cells #[Value.string us,Value.string ur] 39)).grown hgrow3 (by simp;omega) (fun j hj=>(hown.lt j hj).1)
          go_roundw
          case rel =>
            exact ⟨k+1,by omega,by go_num,by rw [HSN.out];first | rfl | (rw [insF];simp [hge];done),by rw [HSN.out];first | exact hown3 | (simp only [insF,hge,Bool.and_false,if_false,Bool.false_eq_true,cellsL_snoc,EU.out,List.length_append,List.length_singleton];exact hown3),hbw⟩
          case measure=>simp [intOf];omega
    · have hkn:k=n:=by omega
      subst hkn
      rw [List.take_of_length_le (by rw [← HN.out];omega)] at hown
      rw [List.take_of_length_le (by rw [← HN.out];omega)]
      have hln:=insG_len t ts
      have hbb:Below w.heap.size w wr:=HBA.out.trans (hb.mono HBA.out.size)
      have y0:wr.cell? ⟨B,0,none⟩=some (.string s):=zC hb (blk_cell H0.out 0 rfl)
      have y1:wr.cell? ⟨B,1,none⟩=some (.string rb):=zC hb (blk_cell H0.out 1 rfl)
      have et:cellsT t=[.string s,.string rb]:=by rw [← HS.out,← HRB.out];rfl
      have hiL:insL t ts=if (insG t ts).2 then (insG t ts).1 else (insG t ts).1 ++ [t]:=rfl
      obtain ⟨⟨o,d⟩,hod⟩:∃ g,insG t ts=g:=⟨_,rfl⟩
      rw [hod] at hown hln hiL
      rw [hod]
      have hsz:=hb.size
      have hnt:=HN.out
      cases d with
      | true =>
        rw [if_pos rfl] at hiL
        obtain ⟨_,q,e,rfl,he,_,hq⟩:=own_hasT hown
        go_wp2
        go_ret
        rw [← hiL]
        exact RetL.mk _ _ _ (by rw [hiL];show _=o.length;rw [hln];rfl) (by have:o.length=ts.length+1:=hln;omega) (by rw [hiL];exact hq) hbb
      | false =>
        rw [if_neg (by show ¬ (false=true);decide)] at hiL
        change o.length=ts.length+0 at hln
        change wr.ownsRow wa.heap.size 39 2 _ o.length (cellsL o) at hown
        have hol:o.length≤1000:=by omega
        go_wp2_with (at_builtin;(refine wpList_append_own _ rfl _ _ 30 rfl wa.heap.size 39 i0 (.agg #[.string ⟨#[]⟩,.string ⟨#[]⟩]) 2 32 Tryz.underlying30 hi hz0 hz1 hz2 rfl (by decide) _ _ _ rfl (hown.alloc _) ⟨wr.heap.size,0,none⟩ 1 1 [.string s,.string rb] rfl rfl (newsT _ _ _ _) (by simp [Value.oneCell']) (by unfold maxLen;omega) (by omega) (by simp;omega) ?_;intro v2 w2 hown2 hgrow2 _))
        obtain ⟨hq1,q,e,rfl,he,_,hq⟩:=own_hasT (show w2.ownsRow wa.heap.size 39 2 v2 (o.length+1) (cellsL (o ++ [t])) by rw [cellsL_snoc,et];exact hown2)
        have hb2:=(hb.alloc hsz (Obj.cells #[Value.string s,Value.string rb] 39)).grown hgrow2 (by simp;omega) (fun j hj=>(hown.lt j hj).1)
        go_ret
        (try rw [hiL])
        exact RetL.mk _ _ _ hq1 he hq (HBA.out.trans (hb2.mono HBA.out.size))
end Go.Proofs.YtpphjnekkjeacaaGreatDoor.Kl
/- The reference of layer 3: Join. -/
namespace Go.Proofs.YtpphjnekkjeacaaGreatDoor.Kl
open Go Go.RowKit
/-- All terms that Join adds up. -/
def jAll (a b:List Tm) (k:Rat):List Tm:=a ++ b.map fun t=>(t.1*k,t.2)
/-- The least radicand among the first n terms that are alike with r. -/
def jLe (all:List Tm) (r:Nat):Nat→Nat
  | 0=>r
  | n+1=>match all[n]? with
    | some t=>if sqN (t.2*r) && decide (t.2 < jLe all r n) then t.2 else jLe all r n
    | none=>jLe all r n
/-- Whether none of the first n terms stands ahead of i and is alike with r. -/
def jFi (all:List Tm) (r i:Nat):Nat→Bool
  | 0=>true
  | n+1=>match all[n]? with
    | some t=>if sqN (t.2*r) then jFi all r i n && decide (i≤n) else jFi all r i n
    | none=>jFi all r i n
/-- The sum of the first n terms that are alike with l. -/
def jSu (all:List Tm) (l:Nat):Nat→Rat
  | 0=>0
  | n+1=>match all[n]? with
    | some t=>if sqN (t.2*l) then jSu all l n+t.1*Rat.divInt (rootN (t.2*l):Nat) (l:Nat) else jSu all l n
    | none=>jSu all l n
/-- What Join has gathered ahead of term i. -/
def jOut (all:List Tm):Nat→List Tm
  | 0=>[]
  | i + 1=>match all[i]? with
    | some t=>if jFi all t.2 i all.length then
        (if jSu all (jLe all t.2 all.length) all.length=0 then jOut all i else insL (jSu all (jLe all t.2 all.length) all.length,jLe all t.2 all.length) (jOut all i))
        else jOut all i
    | none=>jOut all i
theorem jLe_s {all:List Tm} {r n:Nat} {t:Tm} (h:all[n]? = some t):jLe all r (n+1)=if sqN (t.2*r) && decide (t.2 < jLe all r n) then t.2 else jLe all r n:=by rw [jLe,h]
theorem jFi_s {all:List Tm} {r i n:Nat} {t:Tm} (h:all[n]? = some t):jFi all r i (n+1)=if sqN (t.2*r) then jFi all r i n && decide (i≤n) else jFi all r i n:=by rw [jFi,h]
theorem jSu_s {all:List Tm} {l n:Nat} {t:Tm} (h:all[n]? = some t):jSu all l (n+1)=if sqN (t.2*l) then jSu all l n+t.1*Rat.divInt (rootN (t.2*l):Nat) (l:Nat) else jSu all l n:=by rw [jSu,h]
theorem jOut_s {all:List Tm} {i:Nat} {t:Tm} (h:all[i]? = some t):jOut all (i+1)=if jFi all t.2 i all.length then
        (if jSu all (jLe all t.2 all.length) all.length=0 then jOut all i else insL (jSu all (jLe all t.2 all.length) all.length,jLe all t.2 all.length) (jOut all i))
        else jOut all i:=by rw [jOut,h]
/-- What Join can add up: no number becomes too long. -/
structure JOk (all:List Tm):Prop where
  len:all.length≤900
  fit:∀ t ∈ all,RL t.1 200∧dlen (t.2:Int)≤200∧0 < t.2
  sum:∀ t ∈ all,∀ n,n≤all.length→RL (jSu all (jLe all t.2 all.length) n) 200
  mul:∀ t ∈ all,∀ u ∈ all,RL (Rat.divInt (rootN (u.2*jLe all t.2 all.length):Nat) (jLe all t.2 all.length:Nat)) 200∧RL (u.1*Rat.divInt (rootN (u.2*jLe all t.2 all.length):Nat) (jLe all t.2 all.length:Nat)) 200
theorem jLe_in (all:List Tm) (r:Nat) (P:Nat→Prop) (hr:P r) (h:∀ t ∈ all,P t.2):∀ n,P (jLe all r n)
  | 0=>hr
  | n + 1=>by
    cases e:all[n]? with
    | none=>rw [jLe,e];exact jLe_in all r P hr h n
    | some t =>
      rw [jLe_s e]
      split
      · exact h t (List.mem_of_getElem? e)
      · exact jLe_in all r P hr h n
theorem ins_mem (t:Tm) (P:Tm→Prop) (ht:P t):∀ (ts:List Tm) (a:List Tm × Bool),(∀ u ∈ a.1,P u)→(∀ u ∈ ts,P u)→∀ u ∈ (ts.foldl (insF t) a).1,P u
  | [],a,ha,_=>ha
  | v :: ts,a,ha,h=>by
    rw [List.foldl_cons]
    refine ins_mem t P ht ts _ (fun u hu=>?_) (fun u hu=>h u (List.mem_cons_of_mem _ hu))
    have hv:=h v (List.mem_cons_self ..)
    unfold insF at hu
    dsimp only at hu
    split at hu
    · simp only [List.append_assoc,List.mem_append,List.mem_cons,List.not_mem_nil,or_false] at hu
      rcases hu with hu | rfl | rfl
      · exact ha u hu
      · exact ht
      · exact hv
    · simp only [List.mem_append,List.mem_cons,List.not_mem_nil,or_false] at hu
      rcases hu with hu | rfl
      · exact ha u hu
      · exact hv
theorem insL_mem (t:Tm) (P:Tm→Prop) (ht:P t) (ts:List Tm) (h:∀ u ∈ ts,P u):∀ u ∈ insL t ts,P u:=fun u hu=>by
  have hg:=ins_mem t P ht ts ([],false) (fun u hu=>by simp at hu) h
  unfold insL at hu
  split at hu
  · exact hg u hu
  · rw [List.mem_append,List.mem_singleton] at hu
    rcases hu with hu | rfl
    · exact hg u hu
    · exact ht
theorem insL_len (t:Tm) (ts:List Tm):(insL t ts).length=ts.length+1:=by
  have h:=insG_len t ts
  unfold insL
  split
  · rename_i hd;rw [h,hd];rfl
  · rename_i hd
    rw [List.length_append,h,Bool.eq_false_iff.2 hd];rfl
theorem jOut_len (all:List Tm):∀ i,(jOut all i).length≤i
  | 0=>Nat.le_refl 0
  | i + 1=>by
    have ih:=jOut_len all i
    cases e:all[i]? with
    | none=>rw [jOut,e];show (jOut all i).length≤_;omega
    | some t =>
      rw [jOut_s e]
      split
      · split
        · omega
        · rw [insL_len];omega
      · omega
theorem jOut_fit (all:List Tm) (h:∀ t ∈ all,dlen (t.2:Int)≤200):∀ i,∀ u ∈ jOut all i,dlen (u.2:Int)≤200
  | 0=>by simp [jOut]
  | i + 1=>by
    have ih:=jOut_fit all h i
    cases e:all[i]? with
    | none=>rw [jOut,e];exact ih
    | some t =>
      rw [jOut_s e]
      split
      · split
        · exact ih
        · exact insL_mem _ _ (jLe_in all t.2 (fun r=>dlen (r:Int)≤200) (h t (List.mem_of_getElem? e)) h _) _ ih
      · exact ih
theorem cellsL_get : ∀ (ts:List Tm) (j:Nat) (u:Value),(cellsL ts)[j]? = some u→∃ i t,ts[i]? = some t∧((j=i*2∧u = .string (ratB t.1))∨(j=i*2+1∧u = .string (itoaB (t.2:Int))))
  | [],j,u,h=>by simp [cellsL] at h
  | t :: ts,0,u,h=>by
    have:(cellsL (t :: ts))[0]? = some (.string (ratB t.1)):=rfl
    rw [this] at h
    injection h with h
    exact ⟨0,t,rfl,.inl ⟨rfl,h.symm⟩⟩
  | t :: ts,1,u,h=>by
    have:(cellsL (t :: ts))[1]? = some (.string (itoaB (t.2:Int))):=rfl
    rw [this] at h
    injection h with h
    exact ⟨0,t,rfl,.inr ⟨rfl,h.symm⟩⟩
  | t :: ts,j+2,u,h=>by
    have e:(cellsL (t :: ts))[j+2]? = (cellsL ts)[j]?:=rfl
    rw [e] at h
    obtain ⟨i,v,hi,hv⟩:=cellsL_get ts j u h
    refine ⟨i+1,v,hi,?_⟩
    rcases hv with ⟨h1,h2⟩ | ⟨h1,h2⟩
    · exact .inl ⟨by omega,h2⟩
    · exact .inr ⟨by omega,h2⟩
theorem cellsL_one (ts:List Tm):∀ u ∈ cellsL ts,u.oneCell'=true:=fun u hu=>by
  obtain ⟨j,hj⟩:=List.getElem?_of_mem hu
  obtain ⟨i,t,_,⟨_,rfl⟩ | ⟨_,rfl⟩⟩:=cellsL_get ts j u hj <;> simp [Value.oneCell']
theorem hasT_cells {w:World} {b:Nat} {ts:List Tm} (h:HasT w (some ⟨b,0,none⟩) ts):∀ j u,(cellsL ts)[j]? = some u→w.cell? ((⟨b,0,none⟩:Addr).add j)=some u:=fun j u hj=>by
  rw [Addr.add_lit,Nat.zero_add]
  obtain ⟨i,t,ht,hv⟩:=cellsL_get ts j u hj
  obtain ⟨b',hb,h1,h2⟩:=h i t ht
  injection hb with hb
  injection hb with hb
  subst hb
  rcases hv with ⟨rfl,rfl⟩ | ⟨rfl,rfl⟩
  · exact h1
  · exact h2
theorem run_append_none {P:Program} (w:World) (t ty e:TypeId) (i:TypeInfo) (ht:P.underlying t=some (.slice e)) (hi:P.info? e=some i) (a:Addr) (c:Nat) :
    (Builtin.append_ #[t,t] ty #[.slice (some a) 0 0,.slice none 0 c]).run P w = .ok (.slice (some a) 0 0) w:=by
  simp [Builtin.append_,run_underlying ht,sizeOf,typeInfo,hi,Builtin.lenOf,run_firstCells_none,storeCells]
/-- append(Surd{}, a...). -/
theorem wpList_spread {P:Program} (w:World) {ops:Array Oper} {rest:List Oper} {o:Oper} {a:Act} {Q:Exit→Act→World→Prop} (hgd:o.guard=none) (s x:Operand) (t:TypeId)
    (ho:o.op = .call { callee:=.builtin .append,args:=#[s,x],argTypes:=#[t,t] })
    (base:Nat) (e:TypeId) (i:TypeInfo) (z:Value) (bytes:Nat) (ht:P.underlying t=some (.slice e)) (hi:P.info? e=some i) (hz:i.zero=some z)
    (hsize:i.size=2) (hby:i.bytes=bytes) (hzs:z.cells.size=2) (g:Nat) (hs:a.eval s = .slice (some ⟨g,0,none⟩) 0 0) (hown:w.ownsRow base e 2 (.slice (some ⟨g,0,none⟩) 0 0) 0 [])
    (p:Option Addr) (n c:Nat) (ts:List Tm) (hn:n=ts.length) (hx:a.eval x = .slice p n c) (hT:HasT w p ts) (h63:n≤maxLen) (hbytes:n*bytes≤140737488355328) (hbase:base≤w.heap.size)
    (h:∀ v' w',w'.ownsRow base e 2 v' n (cellsL ts)→w.grownBy w' (some g)→wpList P ops Q rest (a.put o.dst v') w'):wpList P ops Q (o :: rest) a w:=by
  have own:∀ ad:Addr,p=some ad→(∀ j u,(cellsL ts)[j]? = some u→w.cell? (ad.add j)=some u)→wpList P ops Q (o :: rest) a w:=fun ad hp hc =>
    wpList_append_own w hgd s x t ho base e i z 2 bytes ht hi hz hsize hby hzs (by decide) _ 0 [] hs hown ad n c (cellsL ts) (by rw [hx,hp]) (by rw [cellsL_len,hn]) hc (cellsL_one ts) (by omega) (by rw [Nat.zero_add];exact hbytes) hbase fun v' w' h2 h3 _=>h v' w' (by rw [Nat.zero_add,List.nil_append] at h2;exact h2) h3
  cases ts with
  | nil =>
    cases p with
    | some ad=>exact own ad rfl (fun j u hj=>by simp [cellsL] at hj)
    | none =>
      have hn0:n=0:=hn
      subst hn0
      refine wpList_plain hgd fun _ hK=>?_
      have hr:=run_append_none (P:=P) w t o.type e i ht hi ⟨g,0,none⟩ c
      unfold Oper.wp execOp
      simp only [ho,resolve,invoke,builtin,Sem.run_bind,Sem.run_pure,Result.andThen_ok,List.map_toArray,List.map_cons,List.map_nil,hs,hx,hr]
      exact hK _ _ (h _ _ hown (World.grownBy.refl _ _))
  | cons t0 r =>
    obtain ⟨b,hp,_⟩:=hT 0 t0 rfl
    exact own _ hp (hasT_cells (by rw [← hp];exact hT))
end Go.Proofs.YtpphjnekkjeacaaGreatDoor.Kl
/- The reference of layer 3: Join. -/
namespace Go.Proofs.YtpphjnekkjeacaaGreatDoor.Kl
open Go Go.RowKit
set_option maxRecDepth 100000 in
set_option maxHeartbeats 4000000 in
theorem join3_any (p q:Option Addr) (n c m d:Nat) (la lb:List Tm) (x:Rat) (hn:n=la.length) (hm:m=lb.length) (hx:RL x 200) (hlb:∀ t ∈ lb,RL t.1 200) (hall:JOk (jAll la lb x)) (w:World) (R:EnvR w) (h1:HasT w p la) (h2:HasT w q lb) :
    Calls Tryz.prog 24 #[.slice p n c,.slice q m d,.string (ratB x)] w (RetL w (jOut (jAll la lb x) (jAll la lb x).length)):=by
  obtain ⟨i0,hi,hz0,hz1,hz2⟩:=info_parts infoRT
  have hl:(jAll la lb x).length=n+m:=by rw [jAll,List.length_append,List.length_map,hn,hm]
  have hl9:=hall.len
  have HN:=Lib.hid hn
  have HM:=Lib.hid hm
  have HX:=Lib.hid hx
  have HJ:=Lib.hid hall
  have HA:=Lib.hid h1
  have HB:=Lib.hid h2
  have HL:=Lib.hid hl
  have LB:=Lib.hid (show Below w.heap.size w (w.alloc (Obj.cells #[] 39)) from (Below.refl _ _).alloc (Nat.le_refl _) _)
  rw [hl] at hl9
  have HT:=Lib.hid hlb
  clear hn hm hx hall h1 h2 hl hlb
  obtain ⟨xs,hxs⟩:∃ v,ratB x=v:=⟨_,rfl⟩
  rw [hxs]
  have HXS:=Lib.hid hxs
  clear hxs
  go_enter Tryz.func24,Tryz.ntmps24
  go_upto_region 2 with (at_builtin;(refine wpList_spread _ rfl _ _ 30 rfl w.heap.size 39 i0 (.agg #[.string ⟨#[]⟩,.string ⟨#[]⟩]) 32 Tryz.underlying30 hi hz0 hz1 hz2 rfl w.heap.size rfl (World.ownsRow_made w #[] 0 (Nat.le_refl _) (by unfold maxLen;omega) rfl) p n c la HN.out rfl (HA.out.below LB.out) (by unfold maxLen;omega) (by omega) LB.out.size ?_;intro v1 w1 hown hgrow))
  have hb:=LB.out.grown hgrow LB.out.size (fun j hj=>by injection hj with hj;omega)
  clear hgrow
  go_wp2
  go_loopw [7,8] (fun v i wr=>∃ k:Nat,k≤m∧i = .int .i64 k∧wr.ownsRow w.heap.size 39 2 v (n+k) (cellsL (la ++ (lb.take k).map fun t=>(t.1*x,t.2)))∧Below w.heap.size w wr) (fun _ i _=>m - (intOf i).toNat)
  case atStart=>exact ⟨0,Nat.zero_le _,rfl,by rw [List.take_zero,List.map_nil,List.append_nil];exact hown,hb⟩
  case round =>
    clear hown hb
    obtain ⟨k,hk,rfl,hown,hb⟩:=hrel
    by_cases hlt:k < m
    · obtain ⟨t,ht⟩:∃ t,lb[k]? = some t:=⟨_,List.getElem?_eq_getElem (by rw [← HM.out];exact hlt)⟩
      obtain ⟨b,rfl,c0,c1⟩:=HB.out k t ht
      have hf:RL t.1 200:=HT.out t (List.mem_of_getElem? ht)
      have x0:wr.cell? ⟨b,k*2,none⟩=some (.string (ratB t.1)):=zC hb c0
      have x1:wr.cell? ⟨b,k*2+1,none⟩=some (.string (itoaB (t.2:Int))):=zC hb c1
      have hb0:b < w.heap.size:=Lib.lt_of_cell c0
      have hsn:cellsL (la ++ (lb.take (k+1)).map fun t=>(t.1*x,t.2))=cellsL (la ++ (lb.take k).map fun t=>(t.1*x,t.2)) ++ [.string (ratB (t.1*x)),.string (itoaB (t.2:Int))]:=by
        rw [List.take_add_one,ht,List.map_append,← List.append_assoc];exact cellsL_snoc _ _
      have kt:∀ w,EnvR w→Calls Tryz.prog 40 #[.string (ratB t.1),.string xs] w fun e w' => e = .returned (.string (ratB (t.1*x)))∧Below w.heap.size w w':=fun w R=>by
        rw [← HXS.out]
        exact times3_any t.1 x hf HX.out w R
      obtain ⟨s,hs⟩:∃ v,ratB t.1=v:=⟨_,rfl⟩
      obtain ⟨s2,hs2⟩:∃ v,ratB (t.1*x)=v:=⟨_,rfl⟩
      obtain ⟨rb,hrb⟩:∃ v,itoaB (t.2:Int)=v:=⟨_,rfl⟩
      rw [hs] at x0 kt
      rw [hrb] at x1 hsn
      rw [hs2] at kt hsn
      have HSN:=Lib.hid hsn
      have KT:=Lib.hid kt
      have HO:=Lib.hid hown
      have hsz:=hb.size
      clear hs hs2 hrb kt hsn c0 c1 ht hf hown
      have g1:(k:Int) < (m:Int):=by omega
      have g2:(0:Int)≤(k:Int):=by omega
      have hnb:u7.ownBlock≠some b:=fun e=>by have:=(HO.out.lt b e).1;omega
      go_upto_region 5 with fail
      go_region_held_law (fun w' => w'.cell? ⟨b,k*2,none⟩=some (.string s)∧w'.cell? ⟨b,k*2+1,none⟩=some (.string rb))
        (first | exact ⟨x0,x1⟩ | exact ⟨zC hk5 x0,zC hk5 x1⟩ | exact ⟨Lib.cell?_alloc_some _ (zC hk5 x0),Lib.cell?_alloc_some _ (zC hk5 x1)⟩ | exact ⟨World.grownBy.cell hgrow2 (Lib.cell?_alloc_some _ (zC hk5 x0)) (fun e=>hnb e.symm),World.grownBy.cell hgrow2 (Lib.cell?_alloc_some _ (zC hk5 x1)) (fun e=>hnb e.symm)⟩)
        (first | (refine step_append_lies _ rfl _ _ 30 rfl w.heap.size 39 i0 (.agg #[.string ⟨#[]⟩,.string ⟨#[]⟩]) 2 32 Tryz.underlying30 hi hz0 hz1 hz2 rfl (by decide) _ _ _ rfl (World.ownsRow.alloc (own_below (World.ownsRow.drew HO.out) hk5) _) ⟨w5.heap.size,0,none⟩ 1 1 [.string s2,.string rb] rfl rfl (newsT _ _ _ _) (by simp [Value.oneCell']) (by decide) (by unfold maxLen;omega) (by omega) (by have:=hb5.size;simp;omega) _ rfl ?_;intro g cap w2 hown2 hgrow2 hat hlt) | (go_at_call 40;(with_reducible refine (zK hb.drew (KT.out _ (R.below hb.drew))).mono ?_);rintro e w5 ⟨rfl,hk5,hb5⟩))
      have hbw:Below w.heap.size w w2:=(hb5.alloc hb5.size _).grown hgrow2 (by have:=hb5.size;simp;omega) (fun j hj=>(HO.out.lt j hj).1)
      clear hb5 hk5 hgrow2 hat hlt x0 x1
      go_wp2
      go_roundw
      case rel=>exact ⟨k+1,by omega,by go_num,by rw [HSN.out];exact hown2,hbw⟩
      case measure=>simp [intOf];omega
    · have hkm:k=m:=by omega
      subst hkm
      rw [List.take_of_length_le (by rw [← HM.out];omega)] at hown
      obtain ⟨hN,pa,ca,rfl,hca,_,hA⟩:=own_hasT hown
      change n+k=(jAll la lb x).length at hN
      change HasT wr pa (jAll la lb x) at hA
      obtain ⟨all,hall⟩:∃ all,jAll la lb x=all:=⟨_,rfl⟩
      rw [hall] at hN hA HJ
      have HALL:=Lib.hid hall
      obtain ⟨N,hNN⟩:∃ N,n+k=N:=⟨_,rfl⟩
      rw [hNN] at hN hl9 hca
      rw [hNN]
      have HAA:=Lib.hid hA
      have HNN:=Lib.hid hN
      have hm0:=hlt
      obtain ⟨wA,hwA⟩:∃ wA,wA=wr:=⟨_,rfl⟩
      subst hwA
      clear hown hall HN HM HA HB HL LB HT HX HXS hlt hNN hk hm0 hA hN
      go_wp2
      go_loopw [9,10] (fun v i wr=>∃ (k:Nat) (po:Option Addr) (no co:Nat),k≤N∧i = .int .i64 k∧v = .slice po no co∧no≤co∧no=(jOut all k).length∧HasT wr po (jOut all k)∧Below w.heap.size w wr∧Below wA.heap.size wA wr) (fun _ i _=>N - (intOf i).toNat)
      case atStart=>exact ⟨0,none,0,0,Nat.zero_le _,rfl,rfl,Nat.le_refl _,rfl,HasT.nil _ _,hb,Below.refl _ _⟩
      case round =>
        clear hb
        obtain ⟨k,po,no,co,hk,rfl,rfl,hco,hno,hT,hb,hbA⟩:=hrel
        have HCO:=Lib.hid hco
        have HTO:=Lib.hid hT
        have HNO:=Lib.hid hno
        clear hco hT hno
        by_cases hlt:k < N
        · obtain ⟨t,ht⟩:∃ t,all[k]? = some t:=⟨_,List.getElem?_eq_getElem (by rw [← HNN.out];exact hlt)⟩
          obtain ⟨b,rfl,_,c1⟩:=HAA.out k t ht
          have x1:wr.cell? ⟨b,k*2+1,none⟩=some (.string (itoaB (t.2:Int))):=zC hbA c1
          obtain ⟨wO,hwO⟩:∃ wO,wO=wr:=⟨_,rfl⟩
          subst hwO
          have g1:(k:Int) < (N:Int):=by omega
          have g2:(0:Int)≤(k:Int):=by omega
          have HK:=Lib.hid ht
          clear ht
          go_wp2
          go_loopw [11,12,13] (fun l f i wr=>∃ j:Nat,j≤N∧i = .int .i64 j∧l = .string (itoaB (jLe all t.2 j:Int))∧f = .bool (jFi all t.2 k j)∧Below wO.heap.size wO wr) (fun _ _ i _=>N - (intOf i).toNat)
          case atStart=>exact ⟨0,Nat.zero_le _,rfl,rfl,rfl,Below.refl _ _⟩
          case round =>
            obtain ⟨j,hj,rfl,rfl,rfl,hbO⟩:=hrel
            by_cases hjl:j < N
            · obtain ⟨u,hu⟩:∃ u,all[j]? = some u:=⟨_,List.getElem?_eq_getElem (by rw [← HNN.out];exact hjl)⟩
              obtain ⟨b',hb',_,c1'⟩:=HAA.out j u hu
              injection hb' with hb'
              injection hb' with hb'
              subst hb'
              have hbR:Below w.heap.size w wr:=hb.trans (hbO.mono hb.size)
              have z1:wr.cell? ⟨b,j*2+1,none⟩=some (.string (itoaB (u.2:Int))):=zC hbO (zC hbA c1')
              have y1:wr.cell? ⟨b,k*2+1,none⟩=some (.string (itoaB (t.2:Int))):=zC hbO x1
              have ft:=HJ.out.fit t (List.mem_of_getElem? HK.out)
              have fu:=HJ.out.fit u (List.mem_of_getElem? hu)
              have fl:=jLe_in all t.2 (fun r=>dlen (r:Int)≤200) ft.2.1 (fun t ht=>(HJ.out.fit t ht).2.1) j
              have ka:∀ w,EnvR w→Calls Tryz.prog 58 #[.string (itoaB (u.2:Int)),.string (itoaB (t.2:Int))] w fun e w' => e = .returned (.tuple #[.string (itoaB (rootN (u.2*t.2):Int)),.bool (sqN (u.2*t.2))])∧Below w.heap.size w w':=fun w R=>alike3_any u.2 t.2 (by have:=fu.2.1;omega) (by have:=ft.2.1;omega) w R
              have kc:∀ w,EnvR w→Calls Tryz.prog 43 #[.string (itoaB (u.2:Int)),.string (itoaB (jLe all t.2 j:Int))] w fun e w' => e = .returned (.int .i64 ((u.2:Int) - (jLe all t.2 j:Int)).sign)∧Below w.heap.size w w':=fun w R=>refCompare_any _ _ w R.env (by have:=fu.2.1;omega) (by omega)
              have sl:=jLe_s (r:=t.2) hu
              have sf:=jFi_s (r:=t.2) (i:=k) hu
              clear ft fu fl c1' c1 hu
              obtain ⟨ur,hur⟩:∃ v,itoaB (u.2:Int)=v:=⟨_,rfl⟩
              obtain ⟨tr,htr⟩:∃ v,itoaB (t.2:Int)=v:=⟨_,rfl⟩
              obtain ⟨le,hle⟩:∃ v,jLe all t.2 j=v:=⟨_,rfl⟩
              obtain ⟨fi,hfi⟩:∃ v,jFi all t.2 k j=v:=⟨_,rfl⟩
              obtain ⟨lr,hlr⟩:∃ v,itoaB (le:Int)=v:=⟨_,rfl⟩
              obtain ⟨ro,hro⟩:∃ v,itoaB (rootN (u.2*t.2):Int)=v:=⟨_,rfl⟩
              rw [hle] at kc sl
              rw [hle,hfi]
              rw [hfi] at sf
              rw [hur,hlr] at kc
              rw [hur,htr,hro] at ka
              rw [hur] at z1
              rw [htr] at y1
              rw [hlr]
              have HUR:=Lib.hid hur
              have HLR:=Lib.hid hlr
              have KC:=Lib.hid kc
              have g3:(j:Int) < (N:Int):=by omega
              have g4:(0:Int)≤(j:Int):=by omega
              clear kc hur htr hle hfi hlr hro
              cases hs:sqN (u.2*t.2) with
              | false =>
                rw [hs] at ka sl sf
                rw [Bool.false_and,if_neg (by decide)] at sl
                rw [if_neg (by decide)] at sf
                have KA:=Lib.hid ka
                have SL:=Lib.hid sl
                have SF:=Lib.hid sf
                clear ka sl sf hs
                have yx1:=cell_regrown y1
                have yz1:=cell_regrown z1
                go_upto_region 15 with fail
                have RR0:=Lib.hid (fun d os=>Calls.regrown_of (KA.out (Sort.grow (redrawn wr d) os) (R.below (hbR.trans ((below_regrown wr d os).mono hbR.size)))))
                refine wp_region_quiet_below (by first | assumption | kernel_rfl) (by kernel_rfl) ?_
                repeat (quiet_step (first | (with_reducible exact RR0.out _ _)))
                refine wpQuiet_nil ?_
                intro _ hw'
                obtain ⟨⟨dq,osq⟩,hw''⟩:=hw'
                subst hw''
                have hbq:=below_regrown wr dq osq
                clear RR0 yx1 yz1
                obtain ⟨wq,hwq⟩:∃ wq,Sort.grow (redrawn wr dq) osq=wq:=⟨_,rfl⟩
                rw [hwq] at hbq ⊢
                clear hwq
                replace hbO:=hbO.trans (hbq.mono hbO.size)
                clear hbR hbq y1 z1
                go_wp2
                go_roundw
                case rel=>exact ⟨j+1,by omega,by go_num,by rw [SL.out,HLR.out],by rw [SF.out],hbO⟩
                case measure=>simp [intOf];omega
              | true =>
                rw [hs] at ka sl sf
                rw [Bool.true_and] at sl
                rw [if_pos rfl] at sf
                have KA:=Lib.hid ka
                have SL:=Lib.hid sl
                have SF:=Lib.hid sf
                clear ka sl sf hs
                have yx1:=cell_regrown y1
                have yz1:=cell_regrown z1
                go_upto_region 15 with fail
                have RR0:=Lib.hid (fun d os=>Calls.regrown_of (KA.out (Sort.grow (redrawn wr d) os) (R.below (hbR.trans ((below_regrown wr d os).mono hbR.size)))))
                refine wp_region_quiet_below (by first | assumption | kernel_rfl) (by kernel_rfl) ?_
                repeat (quiet_step (first | (with_reducible exact RR0.out _ _)))
                refine wpQuiet_nil ?_
                intro _ hw'
                obtain ⟨⟨dq,osq⟩,hw''⟩:=hw'
                subst hw''
                have hbq:=below_regrown wr dq osq
                clear RR0 yx1 yz1
                obtain ⟨wq,hwq⟩:∃ wq,Sort.grow (redrawn wr dq) osq=wq:=⟨_,rfl⟩
                rw [hwq] at hbq ⊢
                clear hwq
                replace hbO:=hbO.trans (hbq.mono hbO.size)
                replace hbR:=hbR.trans (hbq.mono hbR.size)
                replace z1:=zC hbq z1
                clear hbq y1
                cases fi with
                | false =>
                  by_cases hul:u.2 < le
                  · have kc:=KC.out
                    rw [Int.sign_eq_neg_one_of_neg (by omega)] at kc
                    replace KC:=Lib.hid kc
                    clear kc
                    go_wp2_with (go_at_call 43;(with_reducible refine (zK hbR (KC.out _ (R.below hbR))).mono ?_);clear hbR;rintro e w6 ⟨rfl,hk6,hbR⟩;replace hbO:=hbO.trans (hk6.mono hbO.size);replace z1:=zC hk6 z1;clear hk6)
                    go_roundw
                    case rel=>exact ⟨j+1,by omega,by go_num,by rw [SL.out,if_pos (decide_eq_true hul),HUR.out],by rw [SF.out];rfl,hbO⟩
                    case measure=>simp [intOf];omega
                  · have hz:0≤((u.2:Int) - (le:Int)).sign:=by rw [Int.sign_nonneg_iff];omega
                    obtain ⟨z,hzz⟩:∃ z,((u.2:Int) - (le:Int)).sign=z:=⟨_,rfl⟩
                    have kc:=KC.out
                    rw [hzz] at kc hz
                    have hz3:¬ z < 0:=by omega
                    replace KC:=Lib.hid kc
                    clear kc hzz hz
                    go_wp2_with (go_at_call 43;(with_reducible refine (zK hbR (KC.out _ (R.below hbR))).mono ?_);clear hbR;rintro e w6 ⟨rfl,hk6,hbR⟩;replace hbO:=hbO.trans (hk6.mono hbO.size);replace z1:=zC hk6 z1;clear hk6)
                    go_roundw
                    case rel=>exact ⟨j+1,by omega,by go_num,by rw [SL.out,if_neg (by rw [decide_eq_false hul];decide),HLR.out],by rw [SF.out];rfl,hbO⟩
                    case measure=>simp [intOf];omega
                | true =>
                  by_cases hkj:k≤j
                  · have g5:(k:Int)≤(j:Int):=by omega
                    by_cases hul:u.2 < le
                    · have kc:=KC.out
                      rw [Int.sign_eq_neg_one_of_neg (by omega)] at kc
                      replace KC:=Lib.hid kc
                      clear kc
                      go_wp2_with (go_at_call 43;(with_reducible refine (zK hbR (KC.out _ (R.below hbR))).mono ?_);clear hbR;rintro e w6 ⟨rfl,hk6,hbR⟩;replace hbO:=hbO.trans (hk6.mono hbO.size);replace z1:=zC hk6 z1;clear hk6)
                      go_roundw
                      case rel=>exact ⟨j+1,by omega,by go_num,by rw [SL.out,if_pos (decide_eq_true hul),HUR.out],by rw [SF.out,decide_eq_true hkj];rfl,hbO⟩
                      case measure=>simp [intOf];omega
                    · have hz:0≤((u.2:Int) - (le:Int)).sign:=by rw [Int.sign_nonneg_iff];omega
                      obtain ⟨z,hzz⟩:∃ z,((u.2:Int) - (le:Int)).sign=z:=⟨_,rfl⟩
                      have kc:=KC.out
                      rw [hzz] at kc hz
                      have hz3:¬ z < 0:=by omega
                      replace KC:=Lib.hid kc
                      clear kc hzz hz
                      go_wp2_with (go_at_call 43;(with_reducible refine (zK hbR (KC.out _ (R.below hbR))).mono ?_);clear hbR;rintro e w6 ⟨rfl,hk6,hbR⟩;replace hbO:=hbO.trans (hk6.mono hbO.size);replace z1:=zC hk6 z1;clear hk6)
                      go_roundw
                      case rel=>exact ⟨j+1,by omega,by go_num,by rw [SL.out,if_neg (by rw [decide_eq_false hul];decide),HLR.out],by rw [SF.out,decide_eq_true hkj];rfl,hbO⟩
                      case measure=>simp [intOf];omega
                  · have g5:¬ (k:Int)≤(j:Int):=by omega
                    by_cases hul:u.2 < le
                    · have kc:=KC.out
                      rw [Int.sign_eq_neg_one_of_neg (by omega)] at kc
                      replace KC:=Lib.hid kc
                      clear kc
                      go_wp2_with (go_at_call 43;(with_reducible refine (zK hbR (KC.out _ (R.below hbR))).mono ?_);clear hbR;rintro e w6 ⟨rfl,hk6,hbR⟩;replace hbO:=hbO.trans (hk6.mono hbO.size);replace z1:=zC hk6 z1;clear hk6)
                      go_roundw
                      case rel=>exact ⟨j+1,by omega,by go_num,by rw [SL.out,if_pos (decide_eq_true hul),HUR.out],by rw [SF.out,decide_eq_false hkj];rfl,hbO⟩
                      case measure=>simp [intOf];omega
                    · have hz:0≤((u.2:Int) - (le:Int)).sign:=by rw [Int.sign_nonneg_iff];omega
                      obtain ⟨z,hzz⟩:∃ z,((u.2:Int) - (le:Int)).sign=z:=⟨_,rfl⟩
                      have kc:=KC.out
                      rw [hzz] at kc hz
                      have hz3:¬ z < 0:=by omega
                      replace KC:=Lib.hid kc
                      clear kc hzz hz
                      go_wp2_with (go_at_call 43;(with_reducible refine (zK hbR (KC.out _ (R.below hbR))).mono ?_);clear hbR;rintro e w6 ⟨rfl,hk6,hbR⟩;replace hbO:=hbO.trans (hk6.mono hbO.size);replace z1:=zC hk6 z1;clear hk6)
                      go_roundw
                      case rel=>exact ⟨j+1,by omega,by go_num,by rw [SL.out,if_neg (by rw [decide_eq_false hul];decide),HLR.out],by rw [SF.out,decide_eq_false hkj];rfl,hbO⟩
                      case measure=>simp [intOf];omega
            · have hjN:j=N:=by omega
              subst hjN
              have hjo:=jOut_s HK.out
              rw [← HNN.out] at hjo
              obtain ⟨le,hle⟩:∃ v,jLe all t.2 j=v:=⟨_,rfl⟩
              have ht:=List.mem_of_getElem? HK.out
              have hsu:=HJ.out.sum t ht
              have hmu:=HJ.out.mul t ht
              have ft:=HJ.out.fit t ht
              have fl:=jLe_in all t.2 (fun r=>dlen (r:Int)≤200∧0 < r) ft.2 (fun t ht=>(HJ.out.fit t ht).2) j
              rw [← HNN.out] at hsu hmu
              rw [hle] at hjo hsu hmu fl
              rw [hle]
              have HSU:=Lib.hid hsu
              have HMU:=Lib.hid hmu
              have HFL:=Lib.hid fl
              obtain ⟨lr,hlr⟩:∃ v,itoaB (le:Int)=v:=⟨_,rfl⟩
              rw [hlr]
              have HLR:=Lib.hid hlr
              obtain ⟨fi,hfi⟩:∃ v,jFi all t.2 k j=v:=⟨_,rfl⟩
              rw [hfi] at hjo
              rw [hfi]
              clear hle hlr hfi ht hsu hmu ft fl
              cases fi with
              | false =>
                rw [if_neg (by decide)] at hjo
                have HJO:=Lib.hid hjo
                clear hjo
                go_wp2
                go_roundw
                case rel=>exact ⟨k+1,po,no,co,by omega,by go_num,rfl,HCO.out,by rw [HJO.out];exact HNO.out,by rw [HJO.out];exact HTO.out.below hbO,hb.trans (hbO.mono hb.size),hbA.trans (hbO.mono hbA.size)⟩
                case measure=>simp [intOf];omega
              | true =>
                rw [if_pos rfl] at hjo
                have HJO:=Lib.hid hjo
                clear hjo
                obtain ⟨N,hNe⟩:∃ N,N=j:=⟨_,rfl⟩
                subst hNe
                obtain ⟨wI,hwI⟩:∃ wI,wI=wr:=⟨_,rfl⟩
                subst hwI
                have HT1:=Lib.hid (HTO.out.below hbO)
                have hb1:=hb.trans (hbO.mono hb.size)
                have hbA1:=hbA.trans (hbO.mono hbA.size)
                clear hb hbA hbO x1
                have hb:=hb1
                have hbA:=hbA1
                clear hb1 hbA1
                go_wp2
                go_loopw [16,17] (fun s i wr=>∃ j:Nat,j≤N∧i = .int .i64 j∧s = .string (ratB (jSu all le j))∧Below wI.heap.size wI wr) (fun _ i _=>N - (intOf i).toNat)
                case atStart=>exact ⟨0,Nat.zero_le _,rfl,by show _=Value.string (ratB 0);rw [show ratB 0=⟨#[48]⟩ by decide +kernel],Below.refl _ _⟩
                case round =>
                  obtain ⟨j,hj,rfl,rfl,hbO⟩:=hrel
                  by_cases hjl:j < N
                  · obtain ⟨u,hu⟩:∃ u,all[j]? = some u:=⟨_,List.getElem?_eq_getElem (by rw [← HNN.out];exact hjl)⟩
                    obtain ⟨b',hb',c0',c1'⟩:=HAA.out j u hu
                    injection hb' with hb'
                    injection hb' with hb'
                    subst hb'
                    have hbR:Below w.heap.size w wr:=hb.trans (hbO.mono hb.size)
                    have z0:wr.cell? ⟨b,j*2,none⟩=some (.string (ratB u.1)):=zC hbO (zC hbA c0')
                    have z1:wr.cell? ⟨b,j*2+1,none⟩=some (.string (itoaB (u.2:Int))):=zC hbO (zC hbA c1')
                    have hum:=List.mem_of_getElem? hu
                    have fu:=HJ.out.fit u hum
                    have fs:=HSU.out j hj
                    obtain ⟨fm,fp⟩:=HMU.out u hum
                    have fl:=HFL.out.1
                    have fl0:=HFL.out.2
                    have ka:∀ w,EnvR w→Calls Tryz.prog 58 #[.string (itoaB (u.2:Int)),.string (itoaB (le:Int))] w fun e w' => e = .returned (.tuple #[.string (itoaB (rootN (u.2*le):Int)),.bool (sqN (u.2*le))])∧Below w.heap.size w w':=fun w R=>alike3_any u.2 le (by have:=fu.2.1;omega) (by omega) w R
                    have km:∀ w,EnvR w→Calls Tryz.prog 36 #[.string (itoaB (rootN (u.2*le):Int)),.string (itoaB (le:Int))] w fun e w' => e = .returned (.string (ratB (Rat.divInt (rootN (u.2*le):Nat) (le:Nat))))∧Below w.heap.size w w':=fun w R=>make3_any _ _ (by omega) (by have:=rootN_dlen (u.2*le) 400 (by decide) (dlen_natc u.2 le 200 200 (by decide) fu.2.1 fl);omega) (by omega) w R
                    have kt:∀ w,EnvR w→Calls Tryz.prog 40 #[.string (ratB u.1),.string (ratB (Rat.divInt (rootN (u.2*le):Nat) (le:Nat)))] w fun e w' => e = .returned (.string (ratB (u.1*Rat.divInt (rootN (u.2*le):Nat) (le:Nat))))∧Below w.heap.size w w':=fun w R=>times3_any _ _ fu.1 fm w R
                    have kp:∀ w,EnvR w→Calls Tryz.prog 59 #[.string (ratB (jSu all le j)),.string (ratB (u.1*Rat.divInt (rootN (u.2*le):Nat) (le:Nat)))] w fun e w' => e = .returned (.string (ratB (jSu all le j+u.1*Rat.divInt (rootN (u.2*le):Nat) (le:Nat))))∧Below w.heap.size w w':=fun w R=>plus3_any _ _ fs fp w R
                    have ss:=jSu_s (l:=le) hu
                    clear fu fs fm fp fl fl0 c0' c1' hu hum
                    obtain ⟨ur,hur⟩:∃ v,itoaB (u.2:Int)=v:=⟨_,rfl⟩
                    obtain ⟨us,hus⟩:∃ v,ratB u.1=v:=⟨_,rfl⟩
                    obtain ⟨ro,hro⟩:∃ v,itoaB (rootN (u.2*le):Int)=v:=⟨_,rfl⟩
                    obtain ⟨fa,hfa⟩:∃ v,ratB (Rat.divInt (rootN (u.2*le):Nat) (le:Nat))=v:=⟨_,rfl⟩
                    obtain ⟨pa',hpa⟩:∃ v,ratB (u.1*Rat.divInt (rootN (u.2*le):Nat) (le:Nat))=v:=⟨_,rfl⟩
                    obtain ⟨s0,hs0⟩:∃ v,ratB (jSu all le j)=v:=⟨_,rfl⟩
                    obtain ⟨s1,hs1⟩:∃ v,ratB (jSu all le j+u.1*Rat.divInt (rootN (u.2*le):Nat) (le:Nat))=v:=⟨_,rfl⟩
                    rw [hur,hro,HLR.out] at ka
                    rw [hro,HLR.out,hfa] at km
                    rw [hus,hfa,hpa] at kt
                    rw [hs0,hpa,hs1] at kp
                    rw [hus] at z0
                    rw [hur] at z1
                    rw [hs0]
                    have HS0:=Lib.hid hs0
                    have HS1:=Lib.hid hs1
                    have KM:=Lib.hid km
                    have KT:=Lib.hid kt
                    have KP:=Lib.hid kp
                    have g3:(j:Int) < (N:Int):=by omega
                    have g4:(0:Int)≤(j:Int):=by omega
                    clear km kt kp hur hus hro hfa hpa hs0 hs1
                    cases hs:sqN (u.2*le) with
                    | false =>
                      rw [hs] at ka ss
                      rw [if_neg (by decide)] at ss
                      have KA:=Lib.hid ka
                      have SS:=Lib.hid ss
                      clear ka ss hs
                      go_upto_region 26 with (go_at_call 58;(with_reducible refine (zK hbR (KA.out _ (R.below hbR))).mono ?_);clear hbR;rintro e wq ⟨rfl,hbq,hbR⟩)
                      replace hbO:=hbO.trans (hbq.mono hbO.size)
                      clear hbR hbq z0 z1
                      go_wp2
                      go_roundw
                      case rel=>exact ⟨j+1,by omega,by go_num,by rw [SS.out,HS0.out],hbO⟩
                      case measure=>simp [intOf];omega
                    | true =>
                      rw [hs] at ka ss
                      rw [if_pos rfl] at ss
                      have KA:=Lib.hid ka
                      have SS:=Lib.hid ss
                      clear ka ss hs
                      go_upto_region 26 with (go_at_call 58;(with_reducible refine (zK hbR (KA.out _ (R.below hbR))).mono ?_);clear hbR;rintro e wq ⟨rfl,hbq,hbR⟩)
                      replace hbO:=hbO.trans (hbq.mono hbO.size)
                      replace z0:=zC hbq z0
                      clear hbq z1
                      obtain ⟨wp,hwp⟩:∃ wp,wp=wq:=⟨_,rfl⟩
                      subst hwp
                      have yz0:=cell_regrown z0
                      go_upto_region 27 with fail
                      have RR0:=Lib.hid (fun d os=>Calls.regrown_of (KM.out (Sort.grow (redrawn wp d) os) (R.below (hbR.trans ((below_regrown wp d os).mono hbR.size)))))
                      have RR1:=Lib.hid (fun d os=>Calls.regrown_of (KT.out (Sort.grow (redrawn wp d) os) (R.below (hbR.trans ((below_regrown wp d os).mono hbR.size)))))
                      have RR2:=Lib.hid (fun d os=>Calls.regrown_of (KP.out (Sort.grow (redrawn wp d) os) (R.below (hbR.trans ((below_regrown wp d os).mono hbR.size)))))
                      refine wp_region_quiet_below (by first | assumption | kernel_rfl) (by kernel_rfl) ?_
                      repeat (quiet_step (first | (with_reducible exact RR0.out _ _) | (with_reducible exact RR1.out _ _) | (with_reducible exact RR2.out _ _)))
                      refine wpQuiet_nil ?_
                      intro _ hw'
                      obtain ⟨⟨dq,osq⟩,hw''⟩:=hw'
                      subst hw''
                      have hbq:=below_regrown wp dq osq
                      clear RR0 RR1 RR2 yz0
                      obtain ⟨wq,hwq⟩:∃ wq,Sort.grow (redrawn wp dq) osq=wq:=⟨_,rfl⟩
                      rw [hwq] at hbq ⊢
                      clear hwq
                      replace hbO:=hbO.trans (hbq.mono hbO.size)
                      clear hbR hbq z0
                      go_wp2
                      go_roundw
                      case rel=>exact ⟨j+1,by omega,by go_num,by rw [SS.out,HS1.out],hbO⟩
                      case measure=>simp [intOf];omega
                  · have hjN:j=N:=by omega
                    subst hjN
                    have hbw:=hb.trans (hbO.mono hb.size)
                    have hbAw:=hbA.trans (hbO.mono hbA.size)
                    have hTw:=HT1.out.below hbO
                    have ki:∀ w':World,EnvR w'→HasT w' po (jOut all k)→Calls Tryz.prog 60 #[.slice po no co,.agg #[.string (ratB (jSu all le j)),.string (itoaB (le:Int))]] w' (RetL w' (insL (jSu all le j,le) (jOut all k))):=fun w' R h=>insert_any po no co (jOut all k) (jSu all le j,le) HNO.out (by have:=HNO.out;have:=jOut_len all k;omega) (by have:=HFL.out.1;show dlen (le:Int)≤400;omega) (fun u hu=>by have:=jOut_fit all (fun t ht=>(HJ.out.fit t ht).2.1) k u hu;omega) w' R h
                    have hz:=ratB_eq_zero (jSu all le j)
                    obtain ⟨s0,hs0⟩:∃ v,ratB (jSu all le j)=v:=⟨_,rfl⟩
                    rw [hs0,HLR.out] at ki
                    rw [hs0] at hz
                    rw [hs0]
                    have KI:=Lib.hid ki
                    clear ki hs0 hb hbA hbO
                    by_cases h0:jSu all le j=0
                    · have hjo:=HJO.out
                      rw [if_pos h0] at hjo
                      have HJ2:=Lib.hid hjo
                      have e1:(s0.toList == [48])=true:=by rw [hz];simpa using h0
                      have e2:(s0.toList != [48])=false:=by rw [bne,e1];rfl
                      clear hjo hz h0
                      go_wp2
                      go_roundw
                      case rel=>exact ⟨k+1,po,no,co,by omega,by go_num,rfl,HCO.out,by rw [HJ2.out];exact HNO.out,by rw [HJ2.out];exact hTw,hbw,hbAw⟩
                      case measure=>simp [intOf];omega
                    · have hjo:=HJO.out
                      rw [if_neg h0] at hjo
                      have HJ2:=Lib.hid hjo
                      have e1:(s0.toList == [48])=false:=by rw [hz];simpa using h0
                      have e2:(s0.toList != [48])=true:=by rw [bne,e1];rfl
                      clear hjo hz h0
                      go_wp2_with (go_at_call 60;(with_reducible refine (chainL hbw (KI.out _ (R.below hbw) hTw)).mono ?_);rintro e w7 ⟨p7,n7,c7,rfl,rfl,hc7,hT7,hk7,hb7⟩)
                      go_roundw
                      case rel=>exact ⟨k+1,p7,_,c7,by omega,by go_num,rfl,hc7,by rw [HJ2.out],by rw [HJ2.out];exact hT7,hb7,hbAw.trans (hk7.mono hbAw.size)⟩
                      case measure=>simp [intOf];omega
        · have hkN:k=N:=by omega
          subst hkN
          go_wp2
          go_ret
          rw [HALL.out,← HNN.out]
          exact RetL.mk _ _ _ HNO.out HCO.out HTO.out hb
end Go.Proofs.YtpphjnekkjeacaaGreatDoor.Kl
/- made: a surd of the reference as one of the program. -/
namespace Go.Proofs.YtpphjnekkjeacaaGreatDoor.Kl
open Go Go.RowKit
theorem infoST : (Tryz.prog.info? 58).map (fun i=>(i.zero,i.size,i.bytes))=some (some (.agg #[.string ⟨#[]⟩,.string ⟨#[]⟩]),2,32):=by kernel_rfl
set_option maxRecDepth 100000 in
set_option maxHeartbeats 1000000 in
theorem made3_any (p:Option Addr) (n c:Nat) (ts:List Tm) (hn:n=ts.length) (hm:n≤1000) (w:World) (h:HasT w p ts) :
    Calls Tryz.prog 53 #[.slice p n c] w (RetL w ts):=by
  obtain ⟨i0,hi,hz0,hz1,hz2⟩:=info_parts infoST
  have H:=Lib.hid h
  have HN:=Lib.hid hn
  clear h hn
  go_enter Tryz.func53,Tryz.ntmps53
  go_wp2
  go_loopw [3,4] (fun v i wr=>∃ k:Nat,k≤n∧i = .int .i64 k∧wr.ownsRow w.heap.size 58 2 v k (cellsL (ts.take k))∧Below w.heap.size w wr) (fun _ i _=>n - (intOf i).toNat)
  case atStart=>exact ⟨0,Nat.zero_le _,rfl,World.ownsRow_nil _ _ _ _,Below.refl _ _⟩
  case round =>
    obtain ⟨k,hk,rfl,hown,hb⟩:=hrel
    by_cases hlt:k < n
    · obtain ⟨t,ht⟩:∃ t,ts[k]? = some t:=⟨_,List.getElem?_eq_getElem (by rw [← HN.out];exact hlt)⟩
      obtain ⟨b,rfl,c0,c1⟩:=H.out k t ht
      have x0:wr.cell? ⟨b,k*2,none⟩=some (.string (ratB t.1)):=zC hb c0
      have x1:wr.cell? ⟨b,k*2+1,none⟩=some (.string (itoaB (t.2:Int))):=zC hb c1
      have HT:=Lib.hid ht
      have HO:=Lib.hid hown
      obtain ⟨s,hs⟩:∃ s,ratB t.1=s:=⟨_,rfl⟩
      obtain ⟨rb,hr⟩:∃ s,itoaB (t.2:Int)=s:=⟨_,rfl⟩
      rw [hs] at x0
      rw [hr] at x1
      have c0':=c0
      clear c0 c1 ht hown
      have h1:(k:Int) < (n:Int):=by omega
      have h2:(0:Int)≤(k:Int):=by omega
      have hsnoc:cellsL (ts.take (k+1))=cellsL (ts.take k) ++ [.string s,.string rb]:=by
        rw [List.take_add_one,HT.out,← hs,← hr];exact cellsL_snoc _ _
      have HS:=Lib.hid hsnoc
      clear hs hr hsnoc
      have hlt0:b < w.heap.size:=Lib.lt_of_cell c0'
      have hob:∀ o,(wr.drew.alloc o).ownsRow w.heap.size 58 2 u3 k (cellsL (ts.take k)):=fun o=>World.ownsRow.alloc (World.ownsRow.drew HO.out) o
      have hnb:u3.ownBlock≠some b:=fun e=>by have:=(HO.out.lt b e).1;omega
      have hsz:w.heap.size≤wr.heap.size:=hb.size
      go_wp2
      go_region_held_law (fun w' => w'.cell? ⟨b,k*2,none⟩=some (.string s)∧w'.cell? ⟨b,k*2+1,none⟩=some (.string rb))
        (first | exact ⟨x0,x1⟩ | exact ⟨cell_alloc_drew x0,cell_alloc_drew x1⟩ | exact ⟨(World.grownBy.cell hgrow (cell_alloc_drew x0) (fun e=>hnb e.symm)),(World.grownBy.cell hgrow (cell_alloc_drew x1) (fun e=>hnb e.symm))⟩)
        (first | (refine step_append_lies _ rfl _ _ 25 rfl w.heap.size 58 i0 (.agg #[.string ⟨#[]⟩,.string ⟨#[]⟩]) 2 32 Tryz.underlying25 hi hz0 hz1 hz2 rfl (by decide) _ _ _ rfl (hob _) ⟨wr.heap.size,0,none⟩ 1 1 [.string s,.string rb] rfl rfl (newsT _ _ _ _) (by simp [Value.oneCell']) (by decide) (by unfold maxLen;omega) (by omega) (by simp;omega) _ rfl ?_;intro g cap w1 hown hgrow hat hlt))
      go_wp2
      have hg2:(wr.alloc (Obj.cells #[Value.string s,Value.string rb] 58)).drew.grownBy w1 u3.ownBlock:=hgrow
      have hbw:Below w.heap.size w w1:=((hb.alloc hsz (Obj.cells #[Value.string s,Value.string rb] 58)).drew).grown hg2 (by simp;omega) (fun j hj=>(HO.out.lt j hj).1)
      go_roundw
      case rel=>exact ⟨k+1,by omega,by go_num,by rw [HS.out];exact hown,hbw⟩
      case measure=>simp [intOf];omega
    · have hkn:k=n:=by omega
      subst hkn
      rw [List.take_of_length_le (by rw [← HN.out];omega)] at hown
      obtain ⟨_,q,d,rfl,hd,_,hq⟩:=own_hasT hown
      have HQ:=Lib.hid hq
      clear hown hq
      go_wp2
      go_ret
      exact RetL.mk _ _ _ HN.out hd HQ.out hb
end Go.Proofs.YtpphjnekkjeacaaGreatDoor.Kl
/- The roots that Make knows: their classes. -/
namespace Go.Proofs.YtpphjnekkjeacaaGreatDoor.Kl
open Go Go.RowKit
def ten : List Nat:=[1,2,3,8,6,12,10,50,30,1009]
def cb (r:Nat):Nat:=if r=8 then 2 else if r=50 then 2 else if r=12 then 3 else r
def cr (r:Nat):Nat:=if r=8 then 2 else if r=50 then 5 else if r=12 then 2 else 1
def isq (x:Nat):Nat→Nat→Nat
  | 0,k=>k
  | f+1,k=>isq x f ((k+x / k) / 2)
def isr (x:Nat):Nat:=if isq x 25 x*isq x 25 x≤x then isq x 25 x else isq x 25 x - 1
def tenOk (r s:Nat):Bool:=decide (isr (r*s)*isr (r*s)≤r*s∧r*s < (isr (r*s)+1)*(isr (r*s)+1)) && ((decide (isr (r*s)*isr (r*s)=r*s) == decide (cb r=cb s)) && (!decide (cb r=cb s) || decide (isr (r*s)*cr s=cr r*s)))
theorem ten_all : (ten.all fun r=>ten.all fun s=>tenOk r s)=true:=by decide +kernel
theorem ten_one : (ten.all fun r=>decide (r=1) || (decide (isr r*isr r < r) && decide (r < (isr r+1)*(isr r+1))))=true:=by decide +kernel
theorem ten_few : (ten.all fun r=>decide (0 < r∧r < 10000∧0 < cr r∧cr r≤5))=true:=by decide +kernel
theorem ten_pair {r s:Nat} (hr:r ∈ ten) (hs:s ∈ ten):sqN (r*s)=decide (cb r=cb s)∧(cb r=cb s→rootN (r*s)*cr s=cr r*s):=by
  have h:=ten_all
  rw [List.all_eq_true] at h
  have h:=h r hr
  rw [List.all_eq_true] at h
  have h:=h s hs
  unfold tenOk at h
  rw [Bool.and_eq_true,Bool.and_eq_true,decide_eq_true_iff,beq_iff_eq,Bool.or_eq_true,Bool.not_eq_true',decide_eq_false_iff_not,decide_eq_true_iff] at h
  obtain ⟨h1,h2,h3⟩:=h
  have e:rootN (r*s)=isr (r*s):=rootN_eq h1
  refine ⟨by unfold sqN;rw [e];exact h2,fun hc=>?_⟩
  rw [e]
  exact h3.resolve_left fun h=>h hc
theorem ten_form {r:Nat} (hr:r ∈ ten):r=1∨sqN r=false:=by
  have h:=ten_one
  rw [List.all_eq_true] at h
  have h:=h r hr
  rw [Bool.or_eq_true,Bool.and_eq_true,decide_eq_true_iff,decide_eq_true_iff,decide_eq_true_iff] at h
  refine h.imp_right fun ⟨h1,h2⟩=>?_
  unfold sqN
  rw [rootN_eq ⟨Nat.le_of_lt h1,h2⟩,decide_eq_false_iff_not]
  omega
theorem ten_small {r:Nat} (hr:r ∈ ten):0 < r∧r < 10000∧0 < cr r∧cr r≤5:=by
  have h:=ten_few
  rw [List.all_eq_true] at h
  exact of_decide_eq_true (h r hr)
theorem dlen4 (r:Nat) (h:r < 10000):dlen (r:Int)≤4:=dlen_le _ 4 (by decide) (by omega)

/-! ## Terms of Make -/
/-- A factor in twelfths of the class's root. -/
def TI (K:Nat) (t:Tm):Prop:=t.2 ∈ ten∧∃ z:Int,z.natAbs≤K∧t.1=Rat.divInt z ((12*cr t.2:Nat):Int)
theorem TI.mono {K M:Nat} {t:Tm} (h:TI K t) (hk:K≤M):TI M t:=⟨h.1,h.2.imp fun _ h=>⟨Nat.le_trans h.1 hk,h.2⟩⟩
theorem rl_z (z:Int) (d:Nat) (hz:z.natAbs≤100000) (hd:0 < d) (hd2:d < 10000):RL (Rat.divInt z (d:Int)) 10:=
  RL_mk _ _ 10 (by decide) (by omega) (dlen_le _ 10 (by decide) (Nat.lt_of_le_of_lt hz (by decide))) (Nat.le_trans (dlen4 d hd2) (by decide))
theorem TI.rl {K:Nat} {t:Tm} (h:TI K t) (hK:K≤100000):RL t.1 10:=by
  obtain ⟨h1,z,hz,e⟩:=h
  have:=ten_small h1
  rw [e]
  exact rl_z z _ (by omega) (by omega) (by omega)
theorem contribZ (z ro cl cu l:Int) (h:ro*cl=cu*l) (h1:0 < cu) (h2:0 < l) (h3:0 < cl):Rat.divInt z (12*cu)*Rat.divInt ro l=Rat.divInt z (12*cl):=by
  have p:=Int.mul_pos (show (0:Int) < 12*cu by omega) h2
  rw [Rat.divInt_mul_divInt,Rat.divInt_eq_divInt_iff (by omega) (by omega)]
  grind
theorem contrib {r l:Nat} (hr:r ∈ ten) (hl:l ∈ ten) (hc:cb r=cb l) (z:Int) :
    Rat.divInt z ((12*cr r:Nat):Int)*Rat.divInt (rootN (r*l):Nat) (l:Nat)=Rat.divInt z ((12*cr l:Nat):Int):=by
  have h:=(ten_pair hr hl).2 hc
  have h1:=ten_small hr
  have h2:=ten_small hl
  have h':(rootN (r*l):Int)*(cr l:Int)=(cr r:Int)*(l:Int):=by rw [← Int.natCast_mul,← Int.natCast_mul,h]
  have:=contribZ z _ _ _ _ h' (by omega) (by omega) (by omega)
  rw [Int.natCast_mul,Int.natCast_mul]
  exact this
end Go.Proofs.YtpphjnekkjeacaaGreatDoor.Kl
/- Join keeps what a surd of Make is. -/
namespace Go.Proofs.YtpphjnekkjeacaaGreatDoor.Kl
open Go Go.RowKit
/-- Two terms that may stand one behind the other. -/
def RT (a b:Tm):Prop:=a.2 < b.2∧sqN (b.2*a.2)=false
theorem ins_sorted (t:Tm):∀ (ts:List Tm) (o:List Tm) (d:Bool),o.Pairwise RT→ts.Pairwise RT→(∀ x ∈ o,∀ y ∈ ts,RT x y)→(d=false→∀ x ∈ o,RT x t)→(d=true→∀ y ∈ ts,RT t y)→(∀ y ∈ ts,(y.2 < t.2→RT y t)∧(t.2 < y.2→RT t y)∧y.2≠t.2) →
    (if (ts.foldl (insF t) (o,d)).2 then (ts.foldl (insF t) (o,d)).1 else (ts.foldl (insF t) (o,d)).1 ++ [t]).Pairwise RT
  | [],o,d,ho,_,_,hf,_,_=>by
    cases d with
    | true=>exact ho
    | false =>
      show (o ++ [t]).Pairwise RT
      rw [List.pairwise_append]
      exact ⟨ho,List.pairwise_singleton ..,fun a ha b hb=>by rw [List.mem_singleton] at hb;subst hb;exact hf rfl a ha⟩
  | u :: ts,o,d,ho,hp,hx,hf,ht,hy=>by
    rw [List.foldl_cons]
    obtain ⟨hu1,hu2⟩:=List.pairwise_cons.1 hp
    have hyu:=hy u (List.mem_cons_self ..)
    have hyt:∀ y ∈ ts,(y.2 < t.2→RT y t)∧(t.2 < y.2→RT t y)∧y.2≠t.2:=fun y h=>hy y (List.mem_cons_of_mem _ h)
    cases d with
    | true =>
      show (if (ts.foldl (insF t) (o ++ [u],true)).2 then _ else _:List Tm).Pairwise RT
      refine ins_sorted t ts (o ++ [u]) true ?_ hu2 ?_ (fun h=>by cases h) (fun _ y h=>ht rfl y (List.mem_cons_of_mem _ h)) hyt
      · rw [List.pairwise_append]
        exact ⟨ho,List.pairwise_singleton ..,fun a ha b hb=>by rw [List.mem_singleton] at hb;subst hb;exact hx a ha b (List.mem_cons_self ..)⟩
      · intro x h y hy'
        rw [List.mem_append,List.mem_singleton] at h
        rcases h with h | rfl
        · exact hx x h y (List.mem_cons_of_mem _ hy')
        · exact hu1 y hy'
    | false =>
      by_cases h:t.2 < u.2
      · have e:insF t (o,false) u=(o ++ [t] ++ [u],true):=by simp [insF,h]
        rw [e]
        have htu:=hyu.2.1 h
        have htr:∀ y ∈ ts,RT t y:=fun y hy' => (hyt y hy').2.1 (Nat.lt_trans h (hu1 y hy').1)
        refine ins_sorted t ts (o ++ [t] ++ [u]) true ?_ hu2 ?_ (fun h=>by cases h) (fun _=>htr) hyt
        · rw [List.append_assoc,List.pairwise_append]
          refine ⟨ho,by rw [List.singleton_append,List.pairwise_cons];exact ⟨fun b hb=>by rw [List.mem_singleton] at hb;subst hb;exact htu,List.pairwise_singleton ..⟩,fun a ha b hb=>?_⟩
          rw [List.singleton_append,List.mem_cons,List.mem_singleton] at hb
          rcases hb with rfl | rfl
          · exact hf rfl a ha
          · exact hx a ha b (List.mem_cons_self ..)
        · intro x hxx y hy'
          rw [List.mem_append,List.mem_append,List.mem_singleton,List.mem_singleton] at hxx
          rcases hxx with (h | rfl) | rfl
          · exact hx x h y (List.mem_cons_of_mem _ hy')
          · exact htr y hy'
          · exact hu1 y hy'
      · have e:insF t (o,false) u=(o ++ [u],false):=by simp [insF,h]
        rw [e]
        have hut:=hyu.1 (by have:=hyu.2.2;omega)
        refine ins_sorted t ts (o ++ [u]) false ?_ hu2 ?_ (fun _ x hxx=>?_) (fun h=>by cases h) hyt
        · rw [List.pairwise_append]
          exact ⟨ho,List.pairwise_singleton ..,fun a ha b hb=>by rw [List.mem_singleton] at hb;subst hb;exact hx a ha b (List.mem_cons_self ..)⟩
        · intro x h y hy'
          rw [List.mem_append,List.mem_singleton] at h
          rcases h with h | rfl
          · exact hx x h y (List.mem_cons_of_mem _ hy')
          · exact hu1 y hy'
        · rw [List.mem_append,List.mem_singleton] at hxx
          rcases hxx with h | rfl
          · exact hf rfl x h
          · exact hut
theorem insL_sorted (t:Tm) (ts:List Tm) (hp:ts.Pairwise RT) (hy:∀ y ∈ ts,(y.2 < t.2→RT y t)∧(t.2 < y.2→RT t y)∧y.2≠t.2):(insL t ts).Pairwise RT:=
  ins_sorted t ts [] false List.Pairwise.nil hp (fun _ h=>by cases h) (fun _ _ h=>by cases h) (fun h=>by cases h) hy
theorem jFi_no (all:List Tm) (r i:Nat):∀ n,jFi all r i n=true→∀ (j:Nat) (u:Tm),j < n→all[j]? = some u→sqN (u.2*r)=true→i≤j
  | 0,_,j,_,hj,_,_=>absurd hj (Nat.not_lt_zero _)
  | n + 1,h,j,u,hj,hu,hs=>by
    cases e:all[n]? with
    | none => rw [jFi, e] at h; exact jFi_no all r i n h j u (by rcases Nat.lt_or_ge j n with h1 | h1;exact h1;have:j=n:=by omega
                                                                 subst this;rw [e] at hu;cases hu) hu hs
    | some t =>
      rw [jFi_s e] at h
      by_cases hjn:j=n
      · subst hjn
        rw [e] at hu
        injection hu with hu
        subst hu
        rw [if_pos hs,Bool.and_eq_true,decide_eq_true_iff] at h
        exact h.2
      · have h':jFi all r i n=true:=by
          split at h
          · rw [Bool.and_eq_true] at h;exact h.1
          · exact h
        exact jFi_no all r i n h' j u (by omega) hu hs
theorem jLe_class (all:List Tm) (h:∀ t ∈ all,t.2 ∈ ten) (r:Nat) (hr:r ∈ ten):∀ n,jLe all r n ∈ ten∧cb (jLe all r n)=cb r
  | 0=>⟨hr,rfl⟩
  | n + 1=>by
    have ih:=jLe_class all h r hr n
    cases e:all[n]? with
    | none=>rw [jLe,e];exact ih
    | some t =>
      have ht:=h t (List.mem_of_getElem? e)
      rw [jLe_s e]
      split
      · rename_i hc
        rw [Bool.and_eq_true,(ten_pair ht hr).1,decide_eq_true_iff] at hc
        exact ⟨ht,hc.1⟩
      · exact ih
/-- The sum over a class: at most one of the first terms is in it. -/
theorem jSu_bound (all:List Tm) (l K:Nat) (hl:l ∈ ten) (M:Nat) (hT:∀ (n:Nat) (t:Tm),n < M→all[n]? = some t→TI K t) (hp:∀ (i j:Nat) (t u:Tm),i < j→j < M→all[i]? = some t→all[j]? = some u→cb t.2≠cb u.2):∀ n,n≤M →
    ∃ z:Int,jSu all l n=Rat.divInt z ((12*cr l:Nat):Int)∧((z=0∧∀ (j:Nat) (u:Tm),j < n→all[j]? = some u→cb u.2≠cb l)∨(z.natAbs≤K∧∃ (j:Nat) (u:Tm),j < n∧all[j]? = some u∧cb u.2=cb l))
  | 0,_=>⟨0,by rw [Rat.zero_divInt];rfl,.inl ⟨rfl,fun j _ hj=>absurd hj (Nat.not_lt_zero _)⟩⟩
  | n + 1,hn=>by
    obtain ⟨z,hz,hc⟩:=jSu_bound all l K hl M hT hp n (by omega)
    cases e:all[n]? with
    | none =>
      refine ⟨z,by rw [jSu,e];exact hz,?_⟩
      rcases hc with ⟨h1,h2⟩ | ⟨h1,j,u,h2,h3⟩
      · refine .inl ⟨h1,fun j u hj hu=>h2 j u ?_ hu⟩
        rcases Nat.lt_or_ge j n with h | h
        · exact h
        · have:j=n:=by omega
          subst this;rw [e] at hu;cases hu
      · exact .inr ⟨h1,j,u,by omega,h3⟩
    | some t =>
      have ht:=hT n t (by omega) e
      rw [jSu_s e,(ten_pair ht.1 hl).1]
      by_cases hcl:cb t.2=cb l
      · rw [if_pos (by rw [decide_eq_true_iff];exact hcl),hz]
        obtain ⟨_,y,hy,ey⟩:=ht
        rcases hc with ⟨rfl,h2⟩ | ⟨h1,j,u,h2,h3,h4⟩
        · refine ⟨y,by rw [ey,contrib ‹_› hl hcl,Rat.zero_divInt,Rat.zero_add],.inr ⟨hy,n,t,by omega,e,hcl⟩⟩
        · exact absurd (h4.trans hcl.symm) (hp j n u t h2 (by omega) h3 e)
      · rw [if_neg (by rw [decide_eq_true_iff];exact hcl)]
        refine ⟨z,hz,?_⟩
        rcases hc with ⟨h1,h2⟩ | ⟨h1,j,u,h2,h3⟩
        · refine .inl ⟨h1,fun j u hj hu=>?_⟩
          by_cases hjn:j=n
          · subst hjn
            rw [e] at hu
            injection hu with hu
            subst hu
            exact hcl
          · exact h2 j u (by omega) hu
        · exact .inr ⟨h1,j,u,by omega,h3⟩
end Go.Proofs.YtpphjnekkjeacaaGreatDoor.Kl
/- Join of a surd of Make and a term. -/
namespace Go.Proofs.YtpphjnekkjeacaaGreatDoor.Kl
open Go Go.RowKit
structure Inv (ts:List Tm) (K:Nat):Prop where
  srt:ts.Pairwise RT
  all:∀ t ∈ ts,t.1≠0∧TI K t
theorem jAll_one (ts:List Tm) (t:Tm):jAll ts [t] 1=ts ++ [t]:=by
  unfold jAll
  rw [List.map_singleton,Rat.mul_one]
theorem inv_ten {ts:List Tm} {K:Nat} {t:Tm} (hi:Inv ts K) (ht:TI 2400 t):∀ u ∈ ts ++ [t],u.2 ∈ ten:=fun u hu=>by
  rw [List.mem_append,List.mem_singleton] at hu
  rcases hu with h | rfl
  · exact (hi.all u h).2.1
  · exact ht.1
theorem inv_sum {ts:List Tm} {K:Nat} {t:Tm} (hi:Inv ts K) (ht:TI 2400 t) (l:Nat) (hl:l ∈ ten):∀ n,n≤ts.length+1→∃ z:Int,jSu (ts ++ [t]) l n=Rat.divInt z ((12*cr l:Nat):Int)∧z.natAbs≤K+2400:=by
  have hb:=jSu_bound (ts ++ [t]) l K hl ts.length (fun n u hn hu=>by
    rw [List.getElem?_append_left hn] at hu
    exact (hi.all u (List.mem_of_getElem? hu)).2) (fun i j a b hij hj ha hb=>by
    rw [List.getElem?_append_left (by omega)] at ha
    rw [List.getElem?_append_left hj] at hb
    have hr:RT a b:=by
      obtain ⟨h1,e1⟩:=List.getElem?_eq_some_iff.1 ha
      obtain ⟨h2,e2⟩:=List.getElem?_eq_some_iff.1 hb
      rw [← e1,← e2]
      exact List.pairwise_iff_getElem.1 hi.srt i j h1 h2 hij
    have hs:=hr.2
    rw [(ten_pair (hi.all b (List.mem_of_getElem? hb)).2.1 (hi.all a (List.mem_of_getElem? ha)).2.1).1,decide_eq_false_iff_not] at hs
    exact fun e=>hs e.symm)
  intro n hn
  rcases Nat.lt_or_ge ts.length n with h | h
  · have hn':n=ts.length+1:=by omega
    subst hn'
    obtain ⟨z,hz,hc⟩:=hb ts.length (Nat.le_refl _)
    have hzK:z.natAbs≤K:=by
      rcases hc with ⟨rfl,_⟩ | ⟨h,_⟩
      · exact Nat.zero_le _
      · exact h
    have e:(ts ++ [t])[ts.length]? = some t:=by rw [List.getElem?_append_right (Nat.le_refl _),Nat.sub_self];rfl
    rw [jSu_s e,(ten_pair ht.1 hl).1]
    by_cases hcl:cb t.2=cb l
    · obtain ⟨h1,y,hy,ey⟩:=ht
      rw [if_pos (by rw [decide_eq_true_iff];exact hcl),hz,ey,contrib h1 hl hcl]
      have:=ten_small hl
      refine ⟨z+y,?_,by omega⟩
      rw [Rat.divInt_add_divInt _ _ (by omega) (by omega),← Int.add_mul,Rat.divInt_mul_right (by omega)]
    · rw [if_neg (by rw [decide_eq_true_iff];exact hcl)]
      exact ⟨z,hz,by omega⟩
  · obtain ⟨z,hz,hc⟩:=hb n h
    refine ⟨z,hz,?_⟩
    rcases hc with ⟨rfl,_⟩ | ⟨h,_⟩
    · exact Nat.zero_le _
    · omega
theorem inv_ok {ts:List Tm} {K:Nat} {t:Tm} (hi:Inv ts K) (ht:TI 2400 t) (hK:K≤90000) (hl:ts.length≤800):JOk (ts ++ [t]):=by
  have h10:=inv_ten hi ht
  have hrl:∀ u ∈ ts ++ [t],RL u.1 10:=fun u hu=>by
    rw [List.mem_append,List.mem_singleton] at hu
    rcases hu with h | rfl
    · exact (hi.all u h).2.rl (by omega)
    · exact ht.rl (by decide)
  have hN:(ts ++ [t]).length=ts.length+1:=by rw [List.length_append];rfl
  refine ⟨by rw [hN];omega,fun u hu=>⟨(hrl u hu).mono (by decide),?_,(ten_small (h10 u hu)).1⟩,fun u hu n hn=>?_,fun u hu v hv=>?_⟩
  · exact Nat.le_trans (dlen4 _ (ten_small (h10 u hu)).2.1) (by decide)
  · obtain ⟨l1,_⟩:=jLe_class _ h10 u.2 (h10 u hu) (ts ++ [t]).length
    obtain ⟨z,e,hz⟩:=inv_sum hi ht _ l1 n (by rw [← hN];exact hn)
    have:=ten_small l1
    rw [e]
    exact (rl_z z _ (by omega) (by omega) (by omega)).mono (by decide)
  · obtain ⟨l1,_⟩:=jLe_class _ h10 u.2 (h10 u hu) (ts ++ [t]).length
    obtain ⟨l,hl'⟩:∃ l,jLe (ts ++ [t]) u.2 (ts ++ [t]).length=l:=⟨_,rfl⟩
    rw [hl'] at l1 ⊢
    have a1:=ten_small l1
    have a2:=ten_small (h10 v hv)
    have hr:RL (Rat.divInt (rootN (v.2*l):Nat) (l:Nat)) 10:=RL_mk _ _ 10 (by decide) (by omega) (Nat.le_trans (rootN_dlen _ 8 (by decide) (dlen_natc v.2 l 4 4 (by decide) (dlen4 _ a2.2.1) (dlen4 _ a1.2.1))) (by decide)) (Nat.le_trans (dlen4 _ a1.2.1) (by decide))
    exact ⟨hr.mono (by decide),(RL_mulP (by decide) (hrl v hv) hr).mono (by decide)⟩
theorem rt_of {a b:Tm} (ha:a.2 ∈ ten) (hb:b.2 ∈ ten) (hc:cb a.2≠cb b.2) (h:a.2 < b.2):RT a b:=
  ⟨h,by rw [(ten_pair hb ha).1,decide_eq_false_iff_not];exact fun e=>hc e.symm⟩
theorem inv_out {ts:List Tm} {K:Nat} {t:Tm} (hi:Inv ts K) (ht:TI 2400 t):∀ i,(jOut (ts ++ [t]) i).Pairwise RT∧∀ u ∈ jOut (ts ++ [t]) i,u.1≠0∧TI (K+2400) u∧∃ (j:Nat) (v:Tm),j < i∧(ts ++ [t])[j]? = some v∧cb v.2=cb u.2
  | 0=>⟨List.Pairwise.nil,fun u hu=>by simp [jOut] at hu⟩
  | i + 1 => by
    have ih:=inv_out hi ht i
    have up:∀ u ∈ jOut (ts ++ [t]) i,u.1≠0∧TI (K+2400) u∧∃ (j:Nat) (v:Tm),j < i+1∧(ts ++ [t])[j]? = some v∧cb v.2=cb u.2:=fun u hu=>by
      obtain ⟨h1,h2,j,v,hj,h3⟩:=ih.2 u hu
      exact ⟨h1,h2,j,v,by omega,h3⟩
    cases e:(ts ++ [t])[i]? with
    | none=>rw [jOut,e];exact ⟨ih.1,up⟩
    | some v =>
      have h10:=inv_ten hi ht
      have hv:=h10 v (List.mem_of_getElem? e)
      obtain ⟨l1,l2⟩:=jLe_class _ h10 v.2 hv (ts ++ [t]).length
      have hN:(ts ++ [t]).length=ts.length+1:=by rw [List.length_append];rfl
      obtain ⟨z,ez,hz⟩:=inv_sum hi ht _ l1 (ts ++ [t]).length (by rw [hN];exact Nat.le_refl _)
      rw [jOut_s e]
      split
      · rename_i hf
        split
        · exact ⟨ih.1,up⟩
        · rename_i hs
          have hno:=jFi_no _ v.2 i _ hf
          have hcl:∀ u ∈ jOut (ts ++ [t]) i,cb u.2≠cb (jLe (ts ++ [t]) v.2 (ts ++ [t]).length):=fun u hu hc=>by
            obtain ⟨_,_,j,y,hj,hy,hcy⟩:=ih.2 u hu
            have hy10:=h10 y (List.mem_of_getElem? hy)
            have:=hno j y (by have:=(List.getElem?_eq_some_iff.1 hy).1;exact this) hy (by rw [(ten_pair hy10 hv).1,decide_eq_true_iff,hcy,hc,l2])
            omega
          refine ⟨insL_sorted _ _ ih.1 fun y hy=>?_,insL_mem _ (fun u=>u.1≠0∧TI (K+2400) u∧∃ (j:Nat) (v:Tm),j < i+1∧(ts ++ [t])[j]? = some v∧cb v.2=cb u.2) ?_ _ up⟩
          · have hy10:=(ih.2 y hy).2.1.1
            exact ⟨fun h=>rt_of hy10 l1 (hcl y hy) h,fun h=>rt_of l1 hy10 (fun e=>hcl y hy e.symm) h,fun h=>hcl y hy (by rw [h])⟩
          · exact ⟨hs,⟨l1,z,hz,ez⟩,i,v,by omega,e,l2.symm⟩
      · exact ⟨ih.1,up⟩
theorem inv_join {ts:List Tm} {K:Nat} {t:Tm} (hi:Inv ts K) (ht:TI 2400 t):Inv (jOut (ts ++ [t]) (ts ++ [t]).length) (K+2400):=
  ⟨(inv_out hi ht _).1,fun u hu=>⟨((inv_out hi ht _).2 u hu).1,((inv_out hi ht _).2 u hu).2.1⟩⟩
theorem inv_good {ts:List Tm} {K:Nat} (hi:Inv ts K) (hK:K≤100000) (hl:ts.length≤40):Good ts:=by
  refine ⟨hl,fun t ht=>?_,fun i j t u hij ha hb=>?_⟩
  · obtain ⟨h1,h2⟩:=hi.all t ht
    have:=ten_small h2.1
    exact ⟨(h2.rl hK).mono (by decide),Nat.le_trans (dlen4 _ this.2.1) (by decide),h1,this.1,ten_form h2.1⟩
  · obtain ⟨h1,e1⟩:=List.getElem?_eq_some_iff.1 ha
    obtain ⟨h2,e2⟩:=List.getElem?_eq_some_iff.1 hb
    rw [← e1,← e2]
    exact List.pairwise_iff_getElem.1 hi.srt i j h1 h2 hij
end Go.Proofs.YtpphjnekkjeacaaGreatDoor.Kl
/- Make: the parts as a surd. -/
namespace Go.Proofs.YtpphjnekkjeacaaGreatDoor.Kl
open Go Go.RowKit
def den6 (m:Int):Int:=if m=0 then 1 else if m=1 then 2 else if m=2 then 3 else if m=3 then 4 else if m=4 then 6 else 12
def rad10 (m:Int):Nat:=if m=0 then 1 else if m=1 then 2 else if m=2 then 3 else if m=3 then 8 else if m=4 then 6 else if m=5 then 12 else if m=6 then 10 else if m=7 then 50 else if m=8 then 30 else 1009
abbrev Part := Int × Int × Int
def partT (q:Part):Tm:=(Rat.divInt (q.1.tmod 41) (den6 (q.2.1.tmod 6)),rad10 (q.2.2.tmod 10))
def mkL (qs:List Part):Nat→List Tm
  | 0=>[]
  | k+1=>match qs[k]? with
    | some q=>if q.1.tmod 41=0 then mkL qs k else jOut (mkL qs k ++ [partT q]) (mkL qs k ++ [partT q]).length
    | none=>mkL qs k
theorem mkL_s {qs:List Part} {k:Nat} {q:Part} (h:qs[k]? = some q):mkL qs (k+1)=if q.1.tmod 41=0 then mkL qs k else jOut (mkL qs k ++ [partT q]) (mkL qs k ++ [partT q]).length:=by rw [mkL,h]
/-- The parts lie at p. -/
def HasP (w:World) (p:Option Addr) (qs:List Part):Prop:=∀ (i:Nat) (q:Part),qs[i]? = some q→∃ b o,p=some ⟨b,o,none⟩∧w.cell? ⟨b,o+i*3,none⟩=some (.int .i8 q.1)∧w.cell? ⟨b,o+i*3+1,none⟩=some (.int .u8 q.2.1)∧w.cell? ⟨b,o+i*3+2,none⟩=some (.int .u8 q.2.2) ∧ -128≤q.1∧q.1≤127∧0≤q.2.1∧q.2.1≤255∧0≤q.2.2∧q.2.2≤255
theorem HasP.below {w w':World} {p:Option Addr} {qs:List Part} (h:HasP w p qs) (hb:Below w.heap.size w w'):HasP w' p qs:=fun i q hq=>by
  obtain ⟨b,o,h0,h1,h2,h3,h4⟩:=h i q hq
  exact ⟨b,o,h0,zC hb h1,zC hb h2,zC hb h3,h4⟩
theorem part_ti (q:Part):TI 2400 (partT q):=by
  have hd:den6 (q.2.1.tmod 6)=1∨den6 (q.2.1.tmod 6)=2∨den6 (q.2.1.tmod 6)=3∨den6 (q.2.1.tmod 6)=4∨den6 (q.2.1.tmod 6)=6∨den6 (q.2.1.tmod 6)=12:=by
    unfold den6
    repeat' split
    all_goals simp
  have hr:rad10 (q.2.2.tmod 10) ∈ ten:=by
    unfold rad10
    repeat' split
    all_goals decide
  have hn:(q.1.tmod 41).natAbs≤40:=by
    have h1:=Int.tmod_lt_of_pos q.1 (show (0:Int) < 41 by decide)
    have h2:=Int.lt_tmod_of_pos q.1 (show (0:Int) < 41 by decide)
    omega
  have hc:=ten_small hr
  refine ⟨hr,?_⟩
  obtain ⟨c,hcc⟩:∃ c,cr (rad10 (q.2.2.tmod 10))=c:=⟨_,rfl⟩
  obtain ⟨n,hnn⟩:∃ n,q.1.tmod 41=n:=⟨_,rfl⟩
  obtain ⟨d,hdd⟩:∃ d,den6 (q.2.1.tmod 6)=d:=⟨_,rfl⟩
  show ∃ z:Int,z.natAbs≤2400∧Rat.divInt (q.1.tmod 41) (den6 (q.2.1.tmod 6))=Rat.divInt z ((12*cr (rad10 (q.2.2.tmod 10)):Nat):Int)
  rw [hcc] at hc ⊢
  rw [hnn] at hn ⊢
  rw [hdd] at hd ⊢
  have key:∀ m:Int,0≤m→m≤12→m*d=12→∃ z:Int,z.natAbs≤2400∧Rat.divInt n d=Rat.divInt z ((12*c:Nat):Int):=fun m h0 h12 hm=>by
    refine ⟨n*m*c,?_,?_⟩
    · rw [Int.natAbs_mul,Int.natAbs_mul]
      have a1:n.natAbs*m.natAbs≤40*12:=Nat.mul_le_mul hn (by omega)
      have a2:n.natAbs*m.natAbs*(c:Int).natAbs≤40*12*5:=Nat.mul_le_mul a1 (by omega)
      omega
    · rw [Rat.divInt_eq_divInt_iff (by omega) (by omega),Int.natCast_mul]
      grind
  rcases hd with h | h | h | h | h | h
  · exact key 12 (by decide) (by decide) (by rw [h];decide)
  · exact key 6 (by decide) (by decide) (by rw [h];decide)
  · exact key 4 (by decide) (by decide) (by rw [h];decide)
  · exact key 3 (by decide) (by decide) (by rw [h];decide)
  · exact key 2 (by decide) (by decide) (by rw [h];decide)
  · exact key 1 (by decide) (by decide) (by rw [h];decide)
theorem mkL_inv (qs:List Part):∀ k,Inv (mkL qs k) (2400*k)∧(mkL qs k).length≤k
  | 0=>⟨⟨List.Pairwise.nil,fun t h=>by simp [mkL] at h⟩,Nat.le_refl 0⟩
  | k + 1=>by
    obtain ⟨h1,h2⟩:=mkL_inv qs k
    cases e:qs[k]? with
    | none=>rw [mkL,e];exact ⟨⟨h1.srt,fun t h=>⟨(h1.all t h).1,(h1.all t h).2.mono (by omega)⟩⟩,by show (mkL qs k).length≤k+1;omega⟩
    | some q =>
      rw [mkL_s e]
      split
      · exact ⟨⟨h1.srt,fun t h=>⟨(h1.all t h).1,(h1.all t h).2.mono (by omega)⟩⟩,by omega⟩
      · refine ⟨inv_join h1 (part_ti q),?_⟩
        have:=jOut_len (mkL qs k ++ [partT q]) (mkL qs k ++ [partT q]).length
        rw [List.length_append,List.length_singleton] at this ⊢
        omega
end Go.Proofs.YtpphjnekkjeacaaGreatDoor.Kl
/- Make: the walk. -/
namespace Go.Proofs.YtpphjnekkjeacaaGreatDoor.Kl
open Go Go.RowKit
set_option maxRecDepth 100000 in
set_option maxHeartbeats 4000000 in
theorem lawMake_any (p:Option Addr) (n c:Nat) (qs:List Part) (hn:n=qs.length) (hm:n≤6) (w:World) (R:EnvR w) (h:HasP w p qs) :
    Calls Tryz.prog 20 #[.slice p n c] w (RetL w (mkL qs n)):=by
  have H:=Lib.hid h
  have HN:=Lib.hid hn
  clear h hn
  go_enter Tryz.func20,Tryz.ntmps20
  go_wp2
  go_loopw [3,4] (fun v i wr=>∃ (k:Nat) (po:Option Addr) (no co:Nat),k≤n∧i = .int .i64 k∧v = .slice po no co∧no≤co∧no=(mkL qs k).length∧HasT wr po (mkL qs k)∧Below w.heap.size w wr) (fun _ i _=>n - (intOf i).toNat)
  case atStart=>exact ⟨0,none,0,0,Nat.zero_le _,rfl,rfl,Nat.le_refl _,rfl,HasT.nil _ _,Below.refl _ _⟩
  case round =>
    obtain ⟨k,po,no,co,hk,rfl,rfl,hco,hno,hT,hb⟩:=hrel
    have HCO:=Lib.hid hco
    have HNO:=Lib.hid hno
    have HT:=Lib.hid hT
    clear hco hno hT
    by_cases hlt:k < n
    · obtain ⟨q,hq⟩:∃ q,qs[k]? = some q:=⟨_,List.getElem?_eq_getElem (by rw [← HN.out];exact hlt)⟩
      obtain ⟨b,o,rfl,c0,c1,c2,b0,b1,b2,b3,b4,b5⟩:=H.out k q hq
      have hqs:=mkL_s hq
      obtain ⟨nn,hnn⟩:∃ v,q.1.tmod 41=v:=⟨_,rfl⟩
      have hn1 : -41 < nn∧nn < 41:=by
        have h1:=Int.tmod_lt_of_pos q.1 (show (0:Int) < 41 by decide)
        have h2:=Int.lt_tmod_of_pos q.1 (show (0:Int) < 41 by decide)
        omega
      have x0:wr.cell? ⟨b,o+k*3,none⟩=some (.int .i8 q.1):=zC hb c0
      have x1:wr.cell? ⟨b,o+k*3+1,none⟩=some (.int .u8 q.2.1):=zC hb c1
      have x2:wr.cell? ⟨b,o+k*3+2,none⟩=some (.int .u8 q.2.2):=zC hb c2
      have w1:IntKind.i64.wrap q.1=q.1:=IntWalk.i64_in _ (by omega)
      have w2:IntKind.i64.wrap (q.1.tmod 41)=nn:=by rw [hnn];exact IntWalk.i64_in _ (by omega)
      have g1:(k:Int) < (n:Int):=by omega
      have g2:(0:Int)≤(k:Int):=by omega
      have g3:(k:Int) < 6:=by omega
      go_upto_region 6 with fail
      by_cases hz:nn=0
      · have HQ:=Lib.hid (hqs.trans (if_pos (hnn.trans hz)))
        subst hz
        clear hqs hnn x0 x1 x2 c0 c1 c2
        go_wp2
        go_roundw
        case rel=>exact ⟨k+1,po,no,co,by omega,by go_num,rfl,HCO.out,by rw [HQ.out];exact HNO.out,by rw [HQ.out];exact HT.out,hb⟩
        case measure=>simp [intOf];omega
      · have hq1:=hqs.trans (if_neg (fun e=>hz (hnn.symm.trans e)))
        have e0:(nn == 0)=false:=by rw [beq_eq_false_iff_ne];exact hz
        obtain ⟨m,hm6,hm6'⟩:∃ m:Nat,q.2.1.tmod 6=m∧m < 6:=by
          have h1:=Int.tmod_lt_of_pos q.2.1 (show (0:Int) < 6 by decide)
          have h2:=Int.tmod_nonneg 6 b2
          exact ⟨(q.2.1.tmod 6).toNat,by omega,by omega⟩
        have w3:IntKind.u8.wrap (q.2.1.tmod 6)=m:=by rw [hm6];exact IntWalk.u8_in _ (by omega)
        have hy:∀ W:World,(W.alloc (Obj.cells #[.int .i64 1,.int .i64 2,.int .i64 3,.int .i64 4,.int .i64 6,.int .i64 12] 3)).cell? ⟨W.heap.size,m,none⟩=some (.int .i64 (den6 (q.2.1.tmod 6))):=fun W=>by
          rw [hm6]
          refine blk_cell (World.alloc_heap_new W _) m ?_
          match m,hm6' with
          | 0,_ | 1,_ | 2,_ | 3,_ | 4,_ | 5,_=>rfl
        have hd0:0 < den6 (q.2.1.tmod 6)∧den6 (q.2.1.tmod 6)≤12:=by
          unfold den6
          repeat' split
          all_goals decide
        have kn:∀ w,EnvR w→Calls Tryz.prog 37 #[.int .i64 nn] w fun e w' => e = .returned (.string (itoaB nn))∧Below w.heap.size w w':=fun w R=>refOf_any nn (by omega) (by omega) w R.env
        have kd:∀ w,EnvR w→Calls Tryz.prog 37 #[.int .i64 (den6 (q.2.1.tmod 6))] w fun e w' => e = .returned (.string (itoaB (den6 (q.2.1.tmod 6))))∧Below w.heap.size w w':=fun w R=>refOf_any _ (by omega) (by omega) w R.env
        have km:∀ w,EnvR w→Calls Tryz.prog 36 #[.string (itoaB nn),.string (itoaB (den6 (q.2.1.tmod 6)))] w fun e w' => e = .returned (.string (ratB (partT q).1))∧Below w.heap.size w w':=fun w R=>by
          have:=make3_any nn (den6 (q.2.1.tmod 6)) hd0.1 (Nat.le_trans (dlen_le nn 4 (by decide) (by omega)) (by decide)) (Nat.le_trans (dlen_le _ 4 (by decide) (by omega)) (by decide)) w R
          rw [← hnn] at this
          rw [← hnn]
          exact this
        have g4:(m:Int) < 6:=by omega
        have g5:(0:Int)≤(m:Int):=by omega
        obtain ⟨r,hr10,hr10'⟩:∃ r:Nat,q.2.2.tmod 10=r∧r < 10:=by
          have h1:=Int.tmod_lt_of_pos q.2.2 (show (0:Int) < 10 by decide)
          have h2:=Int.tmod_nonneg 10 b4
          exact ⟨(q.2.2.tmod 10).toNat,by omega,by omega⟩
        have w5:IntKind.u8.wrap (q.2.2.tmod 10)=r:=by rw [hr10];exact IntWalk.u8_in _ (by omega)
        have w6:IntKind.u8.wrap (r:Int)=r:=IntWalk.u8_in _ (by omega)
        have hz10:∀ W:World,(W.alloc (Obj.cells #[Value.string ⟨#[49]⟩,Value.string ⟨#[50]⟩,Value.string ⟨#[51]⟩,Value.string ⟨#[56]⟩,Value.string ⟨#[54]⟩,Value.string ⟨#[49,50]⟩,Value.string ⟨#[49,48]⟩,Value.string ⟨#[53,48]⟩,Value.string ⟨#[51,48]⟩,Value.string ⟨#[49,48,48,57]⟩] 35)).cell? ⟨W.heap.size,r,none⟩=some (.string (itoaB ((partT q).2:Int))):=fun W=>by
          show _=some (Value.string (itoaB (rad10 (q.2.2.tmod 10):Int)))
          rw [hr10]
          refine blk_cell (World.alloc_heap_new W _) r ?_
          match r,hr10' with
          | 0,_ | 1,_ | 2,_ | 3,_ | 4,_ | 5,_ | 6,_ | 7,_ | 8,_ | 9,_=>exact congrArg (fun b=>some (Value.string b)) (by decide +kernel)
        have g6:(r:Int) < 10:=by omega
        have g7:(0:Int)≤(r:Int):=by omega
        obtain ⟨mi,ml⟩:=mkL_inv qs k
        have hok:=inv_ok mi (part_ti q) (by omega) (by omega)
        have kj:∀ (B:Nat) (w':World),EnvR w'→HasT w' po (mkL qs k)→w'.heap[B]? = some (.cells #[.string (ratB (partT q).1),.string (itoaB ((partT q).2:Int))] 39 (0,0))→Calls Tryz.prog 24 #[.slice po no co,.slice (some ⟨B,0,none⟩) 1 1,.string ⟨#[49]⟩] w' (RetL w' (jOut (mkL qs k ++ [partT q]) (mkL qs k ++ [partT q]).length)):=fun B w' R h1 h2=>by
          have:=join3_any po (some ⟨B,0,none⟩) no co 1 1 (mkL qs k) [partT q] 1 HNO.out rfl (by unfold RL;decide +kernel) (fun t ht=>by rw [List.mem_singleton] at ht;subst ht;exact ((part_ti q).rl (by decide)).mono (by decide)) (by rw [jAll_one];exact hok) w' R h1 (HasT.one h2)
          rw [jAll_one,show ratB 1=⟨#[49]⟩ by decide +kernel] at this
          exact this
        clear mi ml hok
        obtain ⟨ou,hou⟩:∃ ou,jOut (mkL qs k ++ [partT q]) (mkL qs k ++ [partT q]).length=ou:=⟨_,rfl⟩
        rw [hou] at hq1 kj
        have HQ:=Lib.hid hq1
        clear hq1 hou
        generalize den6 (q.2.1.tmod 6)=dd at hy kd km hd0
        obtain ⟨ns,hns⟩:∃ v,itoaB nn=v:=⟨_,rfl⟩
        obtain ⟨ds,hds⟩:∃ v,itoaB dd=v:=⟨_,rfl⟩
        obtain ⟨fs,hfs⟩:∃ v,ratB (partT q).1=v:=⟨_,rfl⟩
        rw [hns] at kn km
        rw [hds] at kd km
        rw [hfs] at km kj
        obtain ⟨rs,hrs⟩:∃ v,itoaB ((partT q).2:Int)=v:=⟨_,rfl⟩
        rw [hrs] at kj hz10
        have KJ:=Lib.hid kj
        have HZ:=Lib.hid hz10
        clear kj hz10 hrs hr10'
        have KN:=Lib.hid kn
        have KD:=Lib.hid kd
        have KM:=Lib.hid km
        have HY:=Lib.hid hy
        have HFS:=Lib.hid hfs
        have X2:=Lib.hid x2
        clear x2 hqs kn kd km hns hds hfs x0 c0 c1 c2 hm6' hnn hd0
        have w4:IntKind.u8.wrap (m:Int)=m:=IntWalk.u8_in _ (by omega)
        have RW:=R.below hb
        have hr:=Below.refl wr.heap.size wr
        go_upto_region 7 with fail
        have hx1:=fun o=>Lib.cell?_alloc_some o x1
        go_region_with (first | (go_at_call 37;first | ((with_reducible refine (zK hr.drew (KN.out _ (RW.below hr.drew))).mono ?_);rintro e w5 ⟨rfl,hk5,hr5⟩;(try have y5:=zC hk5 (HY.out _));(try have u5:=zC hk5 (Lib.cell?_alloc_some _ x1));(try have v5:=zC hk5 x1);(try have s5:=fun o=>Lib.cell?_alloc_some o (zC hk5 x1))) | ((with_reducible refine (zK (hr.alloc hr.size _).drew (KN.out _ (RW.below (hr.alloc hr.size _).drew))).mono ?_);rintro e w5 ⟨rfl,hk5,hr5⟩;(try have y5:=zC hk5 (HY.out _));(try have u5:=zC hk5 (Lib.cell?_alloc_some _ x1));(try have v5:=zC hk5 x1);(try have s5:=fun o=>Lib.cell?_alloc_some o (zC hk5 x1))) | ((with_reducible refine (zK hr5 (KN.out _ (RW.below hr5))).mono ?_);rintro e w5 ⟨rfl,hk5,hr5⟩;(try have y5:=zC hk5 (HY.out _));(try have u5:=zC hk5 (Lib.cell?_alloc_some _ x1));(try have v5:=zC hk5 x1);(try have s5:=fun o=>Lib.cell?_alloc_some o (zC hk5 x1))) | ((with_reducible refine (zK (hr5.alloc hr5.size _) (KN.out _ (RW.below (hr5.alloc hr5.size _)))).mono ?_);rintro e w5 ⟨rfl,hk5,hr5⟩;(try have y5:=zC hk5 (HY.out _));(try have u5:=zC hk5 (Lib.cell?_alloc_some _ x1));(try have v5:=zC hk5 x1);(try have s5:=fun o=>Lib.cell?_alloc_some o (zC hk5 x1))) | ((with_reducible refine (zK hr6 (KN.out _ (RW.below hr6))).mono ?_);rintro e w5 ⟨rfl,hk5,hr5⟩;(try have y5:=zC hk5 (HY.out _));(try have u5:=zC hk5 (Lib.cell?_alloc_some _ x1));(try have v5:=zC hk5 x1);(try have s5:=fun o=>Lib.cell?_alloc_some o (zC hk5 x1))) | ((with_reducible refine (zK (hr6.alloc hr6.size _) (KN.out _ (RW.below (hr6.alloc hr6.size _)))).mono ?_);rintro e w5 ⟨rfl,hk5,hr5⟩;(try have y5:=zC hk5 (HY.out _));(try have u5:=zC hk5 (Lib.cell?_alloc_some _ x1));(try have v5:=zC hk5 x1);(try have s5:=fun o=>Lib.cell?_alloc_some o (zC hk5 x1)))) | (go_at_call 37;first | ((with_reducible refine (zK hr.drew (KD.out _ (RW.below hr.drew))).mono ?_);rintro e w6 ⟨rfl,hk6,hr6⟩;(try have y6:=zC hk6 (HY.out _));(try have u6:=zC hk6 (Lib.cell?_alloc_some _ x1));(try have v6:=zC hk6 x1);(try have s6:=fun o=>Lib.cell?_alloc_some o (zC hk6 x1))) | ((with_reducible refine (zK (hr.alloc hr.size _).drew (KD.out _ (RW.below (hr.alloc hr.size _).drew))).mono ?_);rintro e w6 ⟨rfl,hk6,hr6⟩;(try have y6:=zC hk6 (HY.out _));(try have u6:=zC hk6 (Lib.cell?_alloc_some _ x1));(try have v6:=zC hk6 x1);(try have s6:=fun o=>Lib.cell?_alloc_some o (zC hk6 x1))) | ((with_reducible refine (zK hr5 (KD.out _ (RW.below hr5))).mono ?_);rintro e w6 ⟨rfl,hk6,hr6⟩;(try have y6:=zC hk6 (HY.out _));(try have u6:=zC hk6 (Lib.cell?_alloc_some _ x1));(try have v6:=zC hk6 x1);(try have s6:=fun o=>Lib.cell?_alloc_some o (zC hk6 x1))) | ((with_reducible refine (zK (hr5.alloc hr5.size _) (KD.out _ (RW.below (hr5.alloc hr5.size _)))).mono ?_);rintro e w6 ⟨rfl,hk6,hr6⟩;(try have y6:=zC hk6 (HY.out _));(try have u6:=zC hk6 (Lib.cell?_alloc_some _ x1));(try have v6:=zC hk6 x1);(try have s6:=fun o=>Lib.cell?_alloc_some o (zC hk6 x1))) | ((with_reducible refine (zK hr6 (KD.out _ (RW.below hr6))).mono ?_);rintro e w6 ⟨rfl,hk6,hr6⟩;(try have y6:=zC hk6 (HY.out _));(try have u6:=zC hk6 (Lib.cell?_alloc_some _ x1));(try have v6:=zC hk6 x1);(try have s6:=fun o=>Lib.cell?_alloc_some o (zC hk6 x1))) | ((with_reducible refine (zK (hr6.alloc hr6.size _) (KD.out _ (RW.below (hr6.alloc hr6.size _)))).mono ?_);rintro e w6 ⟨rfl,hk6,hr6⟩;(try have y6:=zC hk6 (HY.out _));(try have u6:=zC hk6 (Lib.cell?_alloc_some _ x1));(try have v6:=zC hk6 x1);(try have s6:=fun o=>Lib.cell?_alloc_some o (zC hk6 x1)))) | (go_at_call 36;first | ((with_reducible refine (zK hr.drew (KM.out _ (RW.below hr.drew))).mono ?_);rintro e w7 ⟨rfl,hk7,hr7⟩;(try have y7:=zC hk7 (HY.out _));(try have u7:=zC hk7 (Lib.cell?_alloc_some _ x1));(try have v7:=zC hk7 x1);(try have s7:=fun o=>Lib.cell?_alloc_some o (zC hk7 x1))) | ((with_reducible refine (zK (hr.alloc hr.size _).drew (KM.out _ (RW.below (hr.alloc hr.size _).drew))).mono ?_);rintro e w7 ⟨rfl,hk7,hr7⟩;(try have y7:=zC hk7 (HY.out _));(try have u7:=zC hk7 (Lib.cell?_alloc_some _ x1));(try have v7:=zC hk7 x1);(try have s7:=fun o=>Lib.cell?_alloc_some o (zC hk7 x1))) | ((with_reducible refine (zK hr5 (KM.out _ (RW.below hr5))).mono ?_);rintro e w7 ⟨rfl,hk7,hr7⟩;(try have y7:=zC hk7 (HY.out _));(try have u7:=zC hk7 (Lib.cell?_alloc_some _ x1));(try have v7:=zC hk7 x1);(try have s7:=fun o=>Lib.cell?_alloc_some o (zC hk7 x1))) | ((with_reducible refine (zK (hr5.alloc hr5.size _) (KM.out _ (RW.below (hr5.alloc hr5.size _)))).mono ?_);rintro e w7 ⟨rfl,hk7,hr7⟩;(try have y7:=zC hk7 (HY.out _));(try have u7:=zC hk7 (Lib.cell?_alloc_some _ x1));(try have v7:=zC hk7 x1);(try have s7:=fun o=>Lib.cell?_alloc_some o (zC hk7 x1))) | ((with_reducible refine (zK hr6 (KM.out _ (RW.below hr6))).mono ?_);rintro e w7 ⟨rfl,hk7,hr7⟩;(try have y7:=zC hk7 (HY.out _));(try have u7:=zC hk7 (Lib.cell?_alloc_some _ x1));(try have v7:=zC hk7 x1);(try have s7:=fun o=>Lib.cell?_alloc_some o (zC hk7 x1))) | ((with_reducible refine (zK (hr6.alloc hr6.size _) (KM.out _ (RW.below (hr6.alloc hr6.size _)))).mono ?_);rintro e w7 ⟨rfl,hk7,hr7⟩;(try have y7:=zC hk7 (HY.out _));(try have u7:=zC hk7 (Lib.cell?_alloc_some _ x1));(try have v7:=zC hk7 x1);(try have s7:=fun o=>Lib.cell?_alloc_some o (zC hk7 x1)))))
        all_goals
          have x2:=fun o=>Lib.cell?_alloc_some o (zC hr7 X2.out)
          have hT7:=HT.out.below hr7
          have hb7:=hb.trans (hr7.mono hb.size)
          have hz10:=HZ.out
          clear hy hx1
          go_wp2_with (go_at_call 24;refine calls_alloc2 (fun wq hq1 hq2 hbq=>?_);have hb2:=hb7.trans (hbq.mono hb7.size);(with_reducible refine (chainL hb2 (KJ.out _ _ (R.below hb2) (hT7.below hbq) hq2)).mono ?_);rintro e w8 ⟨p8,n8,c8,rfl,rfl,hc8,hT8,hk8,hb8⟩)
          go_roundw
          case rel=>exact ⟨k+1,p8,_,c8,by omega,by go_num,rfl,hc8,by rw [HQ.out],by rw [HQ.out];exact hT8,hb8⟩
          case measure=>simp [intOf];omega
    · have hkn:k=n:=by omega
      subst hkn
      have hno6:no≤1000:=by have:=HNO.out;have:=(mkL_inv qs k).2;omega
      go_wp2_with (go_at_call 53;(with_reducible refine (chainL hb (made3_any po no co (mkL qs k) HNO.out hno6 _ HT.out)).mono ?_);rintro e w9 ⟨p9,n9,c9,rfl,rfl,hc9,hT9,hk9,hb9⟩)
      go_ret
      exact RetL.mk _ _ _ rfl hc9 hT9 hb9
end Go.Proofs.YtpphjnekkjeacaaGreatDoor.Kl
/- klippelaw03.SurdRationals returns true. -/
namespace Go.Proofs.YtpphjnekkjeacaaGreatDoor.Kl
open Go Go.RowKit
set_option maxRecDepth 100000 in
set_option maxHeartbeats 1000000 in
theorem lawSA_long (p:Option Addr) (n c:Nat) (hm:6 < (n:Int)) (w:World) (R:EnvS w) :
    Calls Tryz.prog 8 #[.slice p n c] w fun e w' => e = .returned (.bool true)∧Below w.heap.size w w':=by
  have c0:∀ w,EnvS w→Calls Tryz.prog 13 #[] w fun e w' => e = .returned (.bool true)∧Below w.heap.size w w':=by
    intro w R
    exact known3_any w R
  have C0:=Lib.hid c0
  clear c0
  have hb:=Below.refl w.heap.size w
  go_enter Tryz.func8,Tryz.ntmps8
  go_wp2_with (go_at_call 13;(with_reducible refine (chain hb (C0.out _ (EnvS.below R hb))).mono ?_);clear hb;rintro e w1 ⟨rfl,hb⟩)
  go_ret
  exact ⟨rfl,hb⟩
set_option maxRecDepth 1000000 in
set_option maxHeartbeats 1000000 in
theorem lawSA_nil (p:Option Addr) (n c:Nat) (qs:List Part) (hm:¬ 6 < (n:Int))
    (h1:∀ w,EnvR w→HasP w p qs→Calls Tryz.prog 20 #[.slice p n c] w (RetL w [])) (h2:∀ (p:Option Addr) (c:Nat) w,EnvS w→HasT w p []→Calls Tryz.prog 33 #[.slice p 0 c] w fun e w' => e = .returned (.tuple #[.string ⟨#[48]⟩,.bool true,.int .i64 0])∧Below w.heap.size w w') (w:World) (R:EnvS w) (hp:HasP w p qs) :
    Calls Tryz.prog 8 #[.slice p n c] w fun e w' => e = .returned (.bool true)∧Below w.heap.size w w':=by
  have c0:∀ w,EnvS w→Calls Tryz.prog 13 #[] w fun e w' => e = .returned (.bool true)∧Below w.heap.size w w':=by
    intro w R
    exact known3_any w R
  have C0:=Lib.hid c0
  have C1:=Lib.hid h1
  have C2:=Lib.hid h2
  have HP:=Lib.hid hp
  clear c0 h1 h2 hp
  have hb:=Below.refl w.heap.size w
  go_enter Tryz.func8,Tryz.ntmps8
  go_upto_region 4 with (first | (go_at_call 13;(with_reducible refine (chain hb (C0.out _ (EnvS.below R hb))).mono ?_);clear hb;rintro e w1 ⟨rfl,hb⟩) | (go_at_call 20;(with_reducible refine (chainL hb (C1.out _ (R.toEnvR.below hb) (HP.out.below hb))).mono ?_);clear hb;rintro e w2 ⟨p2,n2,c2,rfl,hn2,hc2,hT,hk,hb⟩;obtain rfl:n2=0:=hn2;clear hk))
  go_wp2_with (go_at_call 33;(with_reducible refine (zK hb (C2.out _ _ _ (EnvS.below R hb) hT)).mono ?_);clear hb;rintro e w3 ⟨rfl,hk,hb⟩;clear hk hT)
  go_ret
  exact ⟨rfl,hb⟩
set_option maxRecDepth 1000000 in
set_option maxHeartbeats 1000000 in
theorem lawSA_one (p:Option Addr) (n c:Nat) (qs:List Part) (hm:¬ 6 < (n:Int)) (t:Tm) (e1:((itoaB (t.2:Int)).toList == [49])=true)
    (h1:∀ w,EnvR w→HasP w p qs→Calls Tryz.prog 20 #[.slice p n c] w (RetL w [t])) (h2:∀ (p:Option Addr) (c:Nat) w,EnvS w→HasT w p [t]→Calls Tryz.prog 33 #[.slice p 1 c] w fun e w' => e = .returned (.tuple #[.string (ratB t.1),.bool true,.int .i64 0])∧Below w.heap.size w w') (w:World) (R:EnvS w) (hp:HasP w p qs) :
    Calls Tryz.prog 8 #[.slice p n c] w fun e w' => e = .returned (.bool true)∧Below w.heap.size w w':=by
  have c0:∀ w,EnvS w→Calls Tryz.prog 13 #[] w fun e w' => e = .returned (.bool true)∧Below w.heap.size w w':=by
    intro w R
    exact known3_any w R
  have C0:=Lib.hid c0
  have C1:=Lib.hid h1
  have C2:=Lib.hid h2
  have HP:=Lib.hid hp
  clear c0 h1 h2 hp
  have hb:=Below.refl w.heap.size w
  go_enter Tryz.func8,Tryz.ntmps8
  go_upto_region 4 with (first | (go_at_call 13;(with_reducible refine (chain hb (C0.out _ (EnvS.below R hb))).mono ?_);clear hb;rintro e w1 ⟨rfl,hb⟩) | (go_at_call 20;(with_reducible refine (chainL hb (C1.out _ (R.toEnvR.below hb) (HP.out.below hb))).mono ?_);clear hb;rintro e w2 ⟨p2,n2,c2,rfl,hn2,hc2,hT,hk,hb⟩;obtain rfl:n2=1:=hn2;obtain ⟨b,rfl,y0,y1⟩:=hT 0 _ rfl;have x0:w2.cell? ⟨b,0,none⟩=some (.string (ratB t.1)):=y0;have x1:w2.cell? ⟨b,1,none⟩=some (.string (itoaB (t.2:Int))):=y1;clear y0 y1;clear hk))
  go_wp2_with (go_at_call 33;(with_reducible refine (zK hb (C2.out _ _ _ (EnvS.below R hb) hT)).mono ?_);clear hb;rintro e w3 ⟨rfl,hk,hb⟩;replace x0:=zC hk x0;replace x1:=zC hk x1;clear hk hT)
  go_ret
  exact ⟨rfl,hb⟩
set_option maxRecDepth 1000000 in
set_option maxHeartbeats 1000000 in
theorem lawSA_root (p:Option Addr) (n c:Nat) (qs:List Part) (hm:¬ 6 < (n:Int)) (t:Tm) (e1:((itoaB (t.2:Int)).toList == [49])=false)
    (h1:∀ w,EnvR w→HasP w p qs→Calls Tryz.prog 20 #[.slice p n c] w (RetL w [t])) (h2:∀ (p:Option Addr) (c:Nat) w,EnvS w→HasT w p [t]→Calls Tryz.prog 33 #[.slice p 1 c] w fun e w' => e = .returned (.tuple #[.string ⟨#[]⟩,.bool false,.int .i64 0])∧Below w.heap.size w w') (w:World) (R:EnvS w) (hp:HasP w p qs) :
    Calls Tryz.prog 8 #[.slice p n c] w fun e w' => e = .returned (.bool true)∧Below w.heap.size w w':=by
  have c0:∀ w,EnvS w→Calls Tryz.prog 13 #[] w fun e w' => e = .returned (.bool true)∧Below w.heap.size w w':=by
    intro w R
    exact known3_any w R
  have C0:=Lib.hid c0
  have C1:=Lib.hid h1
  have C2:=Lib.hid h2
  have HP:=Lib.hid hp
  clear c0 h1 h2 hp
  have hb:=Below.refl w.heap.size w
  go_enter Tryz.func8,Tryz.ntmps8
  go_upto_region 4 with (first | (go_at_call 13;(with_reducible refine (chain hb (C0.out _ (EnvS.below R hb))).mono ?_);clear hb;rintro e w1 ⟨rfl,hb⟩) | (go_at_call 20;(with_reducible refine (chainL hb (C1.out _ (R.toEnvR.below hb) (HP.out.below hb))).mono ?_);clear hb;rintro e w2 ⟨p2,n2,c2,rfl,hn2,hc2,hT,hk,hb⟩;obtain rfl:n2=1:=hn2;obtain ⟨b,rfl,y0,y1⟩:=hT 0 _ rfl;have x0:w2.cell? ⟨b,0,none⟩=some (.string (ratB t.1)):=y0;have x1:w2.cell? ⟨b,1,none⟩=some (.string (itoaB (t.2:Int))):=y1;clear y0 y1;clear hk))
  go_wp2_with (go_at_call 33;(with_reducible refine (zK hb (C2.out _ _ _ (EnvS.below R hb) hT)).mono ?_);clear hb;rintro e w3 ⟨rfl,hk,hb⟩;replace x0:=zC hk x0;replace x1:=zC hk x1;clear hk hT)
  go_ret
  exact ⟨rfl,hb⟩
set_option maxRecDepth 1000000 in
set_option maxHeartbeats 1000000 in
theorem lawSA_more (p:Option Addr) (n c:Nat) (qs:List Part) (hm:¬ 6 < (n:Int)) (ts:List Tm) (m:Nat) (hts:ts.length=m) (m0:((m:Int) == 0)=false) (m1:((m:Int) == 1)=false)
    (h1:∀ w,EnvR w→HasP w p qs→Calls Tryz.prog 20 #[.slice p n c] w (RetL w ts)) (h2:∀ (p:Option Addr) (c:Nat) w,EnvS w→HasT w p ts→Calls Tryz.prog 33 #[.slice p m c] w fun e w' => e = .returned (.tuple #[.string ⟨#[]⟩,.bool false,.int .i64 0])∧Below w.heap.size w w') (w:World) (R:EnvS w) (hp:HasP w p qs) :
    Calls Tryz.prog 8 #[.slice p n c] w fun e w' => e = .returned (.bool true)∧Below w.heap.size w w':=by
  have c0:∀ w,EnvS w→Calls Tryz.prog 13 #[] w fun e w' => e = .returned (.bool true)∧Below w.heap.size w w':=by
    intro w R
    exact known3_any w R
  have C0:=Lib.hid c0
  have C1:=Lib.hid h1
  have C2:=Lib.hid h2
  have HP:=Lib.hid hp
  clear c0 h1 h2 hp
  have HTS:=Lib.hid hts
  clear hts
  have hb:=Below.refl w.heap.size w
  go_enter Tryz.func8,Tryz.ntmps8
  go_upto_region 4 with (first | (go_at_call 13;(with_reducible refine (chain hb (C0.out _ (EnvS.below R hb))).mono ?_);clear hb;rintro e w1 ⟨rfl,hb⟩) | (go_at_call 20;(with_reducible refine (chainL hb (C1.out _ (R.toEnvR.below hb) (HP.out.below hb))).mono ?_);clear hb;rintro e w2 ⟨p2,n2,c2,rfl,hn2,hc2,hT,hk,hb⟩;replace hn2:=hn2.trans HTS.out;subst hn2;clear hk))
  go_wp2_with (go_at_call 33;(with_reducible refine (zK hb (C2.out _ _ _ (EnvS.below R hb) hT)).mono ?_);clear hb;rintro e w3 ⟨rfl,hk,hb⟩;clear hk hT)
  go_ret
  exact ⟨rfl,hb⟩
theorem surdRational_any (ts:List Tm) (n:Nat) (hn:n=ts.length) (hg:Good ts) (p:Option Addr) (c:Nat) (w:World) (R:EnvS w) (h:HasT w p ts) :
    Calls Tryz.prog 33 #[.slice p n c] w fun e w' => e = .returned (.tuple #[.string (ratS3 ts),.bool (isR ts),.int .i64 0])∧Below w.heap.size w w':=
  surdRational_w _ _ _ w (fun w' hb=>check_ok p n c ts hn hg w' (EnvS.below R hb) (h.below hb)) (fun w' hb=>rationalOf_any p n c ts hn (by have:=hg.len;omega) w' (h.below hb))
/-- SurdRationals returns true for every list of parts. -/
theorem lawSRats (p:Option Addr) (n c:Nat) (qs:List Part) (hn:n=qs.length) (w:World) (R:EnvS w) (hp:HasP w p qs) :
    Calls Tryz.prog 8 #[.slice p n c] w fun e w' => e = .returned (.bool true)∧Below w.heap.size w w':=by
  by_cases hm:6 < (n:Int)
  · exact lawSA_long p n c hm w R
  · obtain ⟨hi,hl⟩:=mkL_inv qs n
    have hg:=inv_good hi (by omega) (by omega)
    have h1:=fun w R h=>lawMake_any p n c qs hn (by omega) w R h
    have h2:=fun p c w R h=>surdRational_any (mkL qs n) _ rfl hg p c w R h
    obtain ⟨ts,hts⟩:∃ ts,mkL qs n=ts:=⟨_,rfl⟩
    rw [hts] at h1 h2
    match ts,h1,h2 with
    | [],h1,h2=>exact lawSA_nil p n c qs hm h1 h2 w R hp
    | [t],h1,h2 =>
      have e1:=itoa_is_one (r:=t.2)
      by_cases ht:t.2=1
      · rw [show isR [t]=true from decide_eq_true ht,show ratS3 [t]=ratB t.1 from if_pos ht] at h2
        exact lawSA_one p n c qs hm t (e1.trans (decide_eq_true ht)) h1 h2 w R hp
      · rw [show isR [t]=false from decide_eq_false ht,show ratS3 [t]=⟨#[]⟩ from if_neg ht] at h2
        exact lawSA_root p n c qs hm t (e1.trans (decide_eq_false ht)) h1 h2 w R hp
    | t :: u :: r,h1,h2=>exact lawSA_more p n c qs hm (t :: u :: r) _ rfl (by rw [beq_eq_false_iff_ne,List.length_cons,List.length_cons];omega) (by rw [beq_eq_false_iff_ne,List.length_cons,List.length_cons];omega) h1 h2 w R hp
end Go.Proofs.YtpphjnekkjeacaaGreatDoor.Kl
