import Derived.Test.YtpphjnekkjeacaaGreatDoorKlShelfG
import Derived.Shelf.SlicesQ.IndexFunc
import Derived.Test.YtpphjnekkjeacaaGreatDoorKlSRootsSBZ
namespace Go.Proofs.YtpphjnekkjeacaaGreatDoor.Kl
open Go Go.RowKit
set_option maxRecDepth 100000
set_option maxHeartbeats 8000000
def cellsT (t:Tm):List Value:=[.string (ratB t.1),.string (itoaB (t.2:Int))]
def HasT (w:World) (p:Option Addr) (ts:List Tm):Prop:=∀ (i:Nat) (t:Tm),ts[i]? = some t→∃ b,p=some ⟨b,0,none⟩∧w.cell? ⟨b,i*2,none⟩=some (.string (ratB t.1))∧w.cell? ⟨b,i*2+1,none⟩=some (.string (itoaB (t.2:Int)))
theorem HasT.below {w w':World} {p:Option Addr} {ts:List Tm} (h:HasT w p ts) (hb:Below w.heap.size w w'):HasT w' p ts:=fun i t ht=>by
 obtain ⟨b,h0,h1,h2⟩:=h i t ht
 exact ⟨b,h0,zC hb h1,zC hb h2⟩
theorem HasT.nil (w:World) (p:Option Addr):HasT w p []:=fun _ _ h=>by simp at h
theorem HasT.one {w:World} {b:Nat} {f:Rat} {r:Nat} {T:TypeId} (h:w.heap[b]? = some (.cells #[.string (ratB f),.string (itoaB (r:Int))] T (0,0))):HasT w (some ⟨b,0,none⟩) [(f,r)]:=fun i t ht=>by
 match i,ht with
 | 0,ht=>injection ht with ht;subst ht;exact ⟨b,rfl,blk_cell h 0 rfl,blk_cell h 1 rfl⟩
 | i+1,ht=>simp at ht
theorem HasT.two {w:World} {b:Nat} {f g:Rat} {r s:Nat} {T:TypeId} (h:w.heap[b]? = some (.cells #[.string (ratB f),.string (itoaB (r:Int)),.string (ratB g),.string (itoaB (s:Int))] T (0,0))):HasT w (some ⟨b,0,none⟩) [(f,r),(g,s)]:=fun i t ht=>by
 match i,ht with
 | 0,ht=>injection ht with ht;subst ht;exact ⟨b,rfl,blk_cell h 0 rfl,blk_cell h 1 rfl⟩
 | 1,ht=>injection ht with ht;subst ht;exact ⟨b,rfl,blk_cell h 2 rfl,blk_cell h 3 rfl⟩
 | i+2,ht=>simp at ht
def rlB (q:Rat) (K:Nat):Bool:=decide (dlen q.num≤K∧dlen (q.den:Int)≤K)
theorem rlB_iff {q:Rat} {K:Nat}:rlB q K=true↔RL q K:=by unfold rlB RL;exact decide_eq_true_iff
theorem isRat_ratS {q:Rat}:IsRat (ratS q)↔RL q 200:=⟨fun ⟨_,h,hl⟩=>ratS_inj h ▸ hl,fun h=>⟨q,rfl,h⟩⟩
theorem ratB_data (q:Rat):(ratB q).data.toList=ratS q:=strOf_data _
theorem rcheck_rat (q:Rat) (hq:RL q 10000) (w:World) (R:EnvR w) :
   Calls Tryz.prog 45 #[.string (ratB q)] w (Ret w (.int .i64 (if rlB q 200 then 0 else 2))):=by
 have hs:(ratB q).size≤100000:=Nat.le_trans (size_of_RL hq) (by decide)
 cases h:rlB q 200 with
 | true=>exact rcheck_any _ 0 (.inl ⟨by rw [ratB_data];exact isRat_ratS.2 (rlB_iff.1 h),rfl⟩) hs w R
 | false=>exact rcheck_any _ 2 (.inr ⟨by rw [ratB_data,isRat_ratS,← rlB_iff,h];decide,rfl⟩) hs w R
theorem right_itoa (x:Int):rightB (Lib.itoa x)=decide (dlen x≤200):=by
 unfold rightB
 rw [canon_itoa,mag_itoa,Bool.true_and];rfl
theorem icheck_any (x:Int) (hx:dlen x≤10000) (w:World) :
   Calls Tryz.prog 88 #[.string (itoaB x)] w (Ret w (.int .i64 (if decide (dlen x≤200) then 0 else 2))):=by
 have hs:(itoaB x).size≤1000000:=by
   unfold itoaB
   rw [strOf_size,itoa_len]
   split <;> omega
 have hd:(itoaB x).data.toList=Lib.itoa x:=strOf_data _
 exact (check_any (itoaB x) w hs _ (by rw [hd,right_itoa])).mono fun e w' h=>⟨h.1,h.2 ▸ Below.refl _ _⟩
def okT (t:Tm):Bool:=rlB t.1 200 && decide (dlen (t.2:Int)≤200)
theorem tooLong_w (s rb:ByteArray) (v1 v2:Int) (b1 b2:Bool) (e1:(v1 != 0)=b1) (e2:(v2 != 0)=b2) (h1:CR 45 #[.string s] (.int .i64 v1)) (h2:CR 88 #[.string rb] (.int .i64 v2)) (w:World) (R:EnvR w) :
   Calls Tryz.prog 93 #[.agg #[.string s,.string rb]] w (Ret w (.bool (b1 || b2))):=by
 have C1:=Lib.hid h1
 have C2:=Lib.hid h2
 clear h1 h2
 have hb:Below w.heap.size w (w.alloc (Obj.cells #[Value.string s,Value.string rb] 58)):=(Below.refl _ _).alloc (Nat.le_refl _) _
 have x1:(w.alloc (Obj.cells #[Value.string s,Value.string rb] 58)).cell? ⟨w.heap.size,0,none⟩=some (Value.string s):=by simp [go_sem]
 have x2:(w.alloc (Obj.cells #[Value.string s,Value.string rb] 58)).cell? ⟨w.heap.size,1,none⟩=some (Value.string rb):=by simp [go_sem]
 cases b1 with
 | true =>
   go_enter Tryz.func93,Tryz.ntmps93
   go_wp2_with (first | (go_at_call 45;with_reducible refine (chRB hb R C1).mono ?_;clear hb;rintro e w1 ⟨rfl,hk,hb⟩;replace x1:=zC hk x1;replace x2:=zC hk x2;clear hk) | (go_at_call 88;with_reducible refine (chRA hb R C2).mono ?_;clear hb;rintro e w1 ⟨rfl,hb⟩))
   go_ret
   exact ⟨rfl,hb⟩
 | false =>
   go_enter Tryz.func93,Tryz.ntmps93
   go_wp2_with (first | (go_at_call 45;with_reducible refine (chRB hb R C1).mono ?_;clear hb;rintro e w1 ⟨rfl,hk,hb⟩;replace x1:=zC hk x1;replace x2:=zC hk x2;clear hk) | (go_at_call 88;with_reducible refine (chRA hb R C2).mono ?_;clear hb;rintro e w1 ⟨rfl,hb⟩))
   go_ret
   exact ⟨by simp,hb⟩
theorem tooLong_any (t:Tm) (h1:RL t.1 10000) (h2:dlen (t.2:Int)≤10000) (w:World) (R:EnvR w) :
   Calls Tryz.prog 93 #[.agg (cellsT t).toArray] w (Ret w (.bool (!okT t))):=by
 have:=tooLong_w (ratB t.1) (itoaB (t.2:Int)) _ _ (!rlB t.1 200) (!decide (dlen (t.2:Int)≤200)) (by cases rlB t.1 200 <;> rfl) (by cases decide (dlen (t.2:Int)≤200) <;> rfl) (fun w R=>rcheck_rat t.1 h1 w R) (fun w _=>icheck_any _ h2 w) w R
 rw [← Bool.not_and] at this
 exact this
def clipT (t:Tm):Tm:=if rlB t.1 10000 && decide (dlen (t.2:Int)≤10000) then t else (0,1)
def fitT (t:Tm):Prop:=RL t.1 10000∧dlen (t.2:Int)≤10000
theorem clip_fit (t:Tm):fitT (clipT t):=by
 unfold clipT
 split
 · rename_i h
   rw [Bool.and_eq_true,rlB_iff,decide_eq_true_iff] at h
   exact h
 · exact ⟨⟨by decide +kernel,by decide +kernel⟩,by decide +kernel⟩
theorem clip_of {t:Tm} (h:fitT t):clipT t=t:=by
 unfold clipT
 rw [if_pos (by rw [Bool.and_eq_true,rlB_iff,decide_eq_true_iff];exact h)]
theorem any_clip (p:Tm→Bool):∀ (l:List Tm),(∀ t ∈ l,fitT t)→(l.any fun t=>p (clipT t))=l.any p
 | [],_=>rfl
 | t :: r,h=>by
   rw [List.any_cons,List.any_cons,clip_of (h t (by simp)),any_clip p r (fun u hu=>h u (by simp [hu]))]
theorem isAgg_term (w:World):(isAgg 58).run Tryz.prog w = .ok true w:=Tryz.isAgg58 w
theorem sizeOf_term (w:World):(Go.sizeOf 58).run Tryz.prog w = .ok 2 w:=Tryz.sizeOf58 w
theorem tooLong_pred (w:World) (R:EnvR w):PredBelow Tryz.prog 93 #[] (fun x=>.agg (cellsT (clipT x)).toArray) (fun t=>!okT (clipT t)) w:=fun W x hb =>
 (tooLong_any (clipT x) (clip_fit x).1 (clip_fit x).2 W (R.below hb)).mono fun _ _ ⟨he,hb2⟩=>⟨he,hb.trans (hb2.mono hb.size)⟩
theorem contains_none (p:Option Addr) (c:Nat) (w:World) :
   Calls Tryz.prog 94 #[.slice p 0 c,.func (.func 93) #[] #[]] w (Ret w (.bool false)):=by
 have hb:=Below.refl w.heap.size w
 go_enter Tryz.func94,Tryz.ntmps94
 go_wp2
 refine wp_loop_rounds 1 ?_
 rw [rounds_succ]
 go_wp2
 go_ret
 exact ⟨rfl,hb⟩
theorem containsLong (p:Option Addr) (n c:Nat) (ts:List Tm) (hn:n=ts.length) (hm:n≤1000000) (hf:∀ t ∈ ts,fitT t) (w:World) (R:EnvR w) (h:HasT w p ts) :
   Calls Tryz.prog 94 #[.slice p n c,.func (.func 93) #[] #[]] w (Ret w (.bool (ts.any fun t=>!okT t))):=by
 cases ts with
 | nil =>
   obtain rfl:n=0:=hn
   exact contains_none p c w
 | cons t0 r =>
   obtain ⟨b,rfl,h1,_⟩:=h 0 t0 rfl
   have hlt:=Lib.lt_of_cell h1
   have:=AnyQ.slices_ContainsFunc Tryz.g0 2 isAgg_term sizeOf_term (fun t=>cellsT (clipT t)) (fun _=>rfl) (fun t=>!okT (clipT t)) 93 #[] (enters_of Tryz.func93 (by kernel_rfl) rfl) b 0 n c (t0 :: r) w (tooLong_pred w R) (by omega) (by omega) hlt (fun j hj i v hv=>by
     obtain ⟨t,ht⟩:∃ t,(t0 :: r)[j]? = some t:=⟨_,List.getElem?_eq_getElem hj⟩
     have e:(t0 :: r)[j]! = t:=by rw [List.getElem!_eq_getElem?_getD,ht];rfl
     obtain ⟨b',hb',c0,c1⟩:=h j t ht
     injection hb' with hb'
     injection hb' with hb'
     subst hb'
     rw [e,clip_of (hf t (List.mem_of_getElem? ht))] at hv
     rw [Nat.zero_add]
     match i,hv with
     | 0,hv=>injection hv with hv;rw [← hv];exact c0
     | 1,hv=>injection hv with hv;rw [← hv];exact c1
     | i+2,hv=>simp [cellsT] at hv)
   rw [List.take_of_length_le (by omega),any_clip (fun t=>!okT t) _ hf] at this
   exact this
theorem result_w (p:Option Addr) (n c:Nat) (hm:n≤1000000) (b:Bool) (w:World)
   (h:∀ w',Below w.heap.size w w'→Calls Tryz.prog 94 #[.slice p n c,.func (.func 93) #[] #[]] w' fun e w'' => e = .returned (.bool b)∧Below w'.heap.size w' w'') :
   Calls Tryz.prog 47 #[.slice p n c] w (Ret w (.tuple #[if decide (40 < n) || b then .slice none 0 0 else .slice p n c,.int .i64 (if decide (40 < n) || b then 4 else 0)])):=by
 have C:=Lib.hid h
 clear h
 have hb:=Below.refl w.heap.size w
 by_cases hn:40 < n
 · have h2:(40:Int) < (n:Int):=by omega
   simp only [decide_eq_true hn,Bool.true_or,if_true]
   go_enter Tryz.func47,Tryz.ntmps47
   go_wp2
   go_ret2
   exact ⟨rfl,hb⟩
 · have h2:¬ (40:Int) < (n:Int):=by omega
   simp only [decide_eq_false hn,Bool.false_or]
   cases b with
   | true =>
     go_enter Tryz.func47,Tryz.ntmps47
     go_wp2_with (go_at_call 94;(with_reducible refine (chain hb (C.out _ hb)).mono ?_);clear hb;rintro e w1 ⟨rfl,hb⟩)
     go_ret2
     exact ⟨rfl,hb⟩
   | false =>
     go_enter Tryz.func47,Tryz.ntmps47
     go_wp2_with (go_at_call 94;(with_reducible refine (chain hb (C.out _ hb)).mono ?_);clear hb;rintro e w1 ⟨rfl,hb⟩)
     go_ret2
     exact ⟨rfl,hb⟩
def longT (ts:List Tm):Bool:=decide (40 < ts.length) || ts.any fun t=>!okT t
theorem result_any (p:Option Addr) (n c:Nat) (ts:List Tm) (hn:n=ts.length) (hm:n≤1000000) (hf:∀ t ∈ ts,fitT t) (w:World) (R:EnvR w) (h:HasT w p ts) :
   Calls Tryz.prog 47 #[.slice p n c] w (Ret w (.tuple #[if longT ts then .slice none 0 0 else .slice p n c,.int .i64 (if longT ts then 4 else 0)])):=by
 have:=result_w p n c hm _ w (fun w' hb=>containsLong p n c ts hn hm hf w' (R.below hb) (h.below hb))
 rw [hn] at this ⊢
 exact this
theorem ret_two {P:Program} {fn:Func} {Q:Ending→World→Prop} {a:Act} {w w1:World} {B:Nat} {T:TypeId} {u0 u1 v0 v1:Value}
   (hb:Below w.heap.size w w1) (hB:w.heap.size≤B) (h:w1.heap[B]? = some (Obj.cells #[u0,u1] T (0,0)))
   (k:∀ W:World,Below w.heap.size w W→W.cell? ⟨B,0,none⟩=some v0→W.cell? ⟨B,1,none⟩=some v1→bodyPost P fn Q .ret a W) :
   bodyPost P fn Q .ret a ((w1.setCell ⟨B,0,none⟩ v0).setCell ⟨B,1,none⟩ v1):=by
 have e:=heap_setCell_same _ B 1 _ _ v1 (heap_setCell_same w1 B 0 _ _ v0 h)
 exact k _ ((hb.setCell (p:=⟨B,0,none⟩) hB _).setCell (p:=⟨B,1,none⟩) hB _) (blk_cell e 0 rfl) (blk_cell e 1 rfl)
theorem rootsOf_yes (s x:ByteArray) (h1:CR 95 #[.string s] (.tuple #[.string x,.bool true])) (w:World) (R:EnvR w) :
   Calls Tryz.prog 48 #[.string s] w (Ret w (.agg #[.string x,.string ⟨#[49]⟩])):=by
 have C1:=Lib.hid h1
 clear h1
 go_enter Tryz.func48,Tryz.ntmps48
 go_upto_region 1 with fail
 refine wp_alloc1 (fun wa h0 hb=>?_)
 obtain ⟨B,hB⟩:∃ B,w.heap.size=B:=⟨_,rfl⟩
 have hBw:w.heap.size≤B:=by omega
 have f0:=blk_frozen h0 0
 rw [hB] at h0
 go_upto_region 3 with (go_at_call 95;with_reducible refine (chRB hb R C1).mono ?_;clear hb;rintro e w1 ⟨rfl,hk,hb⟩;replace h0:=blk_below hk h0;clear hk f0)
 have x0:=blk_cell h0 0 rfl
 have x1:=blk_cell h0 1 rfl
 have f0:=blk_frozen h0 0
 have f1:=blk_frozen h0 1
 go_wp2
 refine ret_two hb hBw h0 (fun W hbW c0 c1=>?_)
 exact bodyPost_ret (v:=.agg #[.string x,.string ⟨#[49]⟩]) (by simp [results,Tryz.results48,go_sem,c0,c1]) rfl ⟨rfl,hbW⟩
theorem rootsOf_no (s y nb db f m:ByteArray) (h1:CR 95 #[.string s] (.tuple #[.string y,.bool false]))
   (h2:CR 91 #[.string s] (.tuple #[.string nb,.string db]))
   (h3:CR 76 #[.string ⟨#[49]⟩,.string db] (.tuple #[.string f,.int .i64 0]))
   (h4:CR 96 #[.string nb,.string db] (.string m)) (w:World) (R:EnvR w) :
   Calls Tryz.prog 48 #[.string s] w (Ret w (.agg #[.string f,.string m])):=by
 have C1:=Lib.hid h1
 have C2:=Lib.hid h2
 have C3:=Lib.hid h3
 have C4:=Lib.hid h4
 clear h1 h2 h3 h4
 go_enter Tryz.func48,Tryz.ntmps48
 go_upto_region 1 with fail
 refine wp_alloc1 (fun wa h0 hb=>?_)
 obtain ⟨B,hB⟩:∃ B,w.heap.size=B:=⟨_,rfl⟩
 have hBw:w.heap.size≤B:=by omega
 rw [hB] at h0
 go_upto_region 6 with ((first | (go_at_call 95;with_reducible refine (chRB hb R C1).mono ?_) | (go_at_call 91;with_reducible refine (chRB hb R C2).mono ?_) | (go_at_call 76;with_reducible refine (chRB hb R C3).mono ?_));clear hb;rintro e w1 ⟨rfl,hk,hb⟩;replace h0:=blk_below hk h0;clear hk)
 go_wp2_with (go_at_call 96;with_reducible refine (chRB hb R C4).mono ?_;clear hb;rintro e w1 ⟨rfl,hk,hb⟩;replace h0:=blk_below hk h0;clear hk;have x0:=blk_cell h0 0 rfl;have x1:=blk_cell h0 1 rfl;have f0:=blk_frozen h0 0;have f1:=blk_frozen h0 1)
 refine ret_two hb hBw h0 (fun W hbW c0 c1=>?_)
 exact bodyPost_ret (v:=.agg #[.string f,.string m]) (by simp [results,Tryz.results48,go_sem,c0,c1]) rfl ⟨rfl,hbW⟩
def rootT (q:Rat):Tm:=if sqB q.num && sqB q.den then (rootQ q,1) else (Rat.divInt 1 q.den,q.num.toNat*q.den)
theorem rootsOf_any (q:Rat) (h0:0 < q.num) (hq:RL q 4000) (w:World) (R:EnvR w) :
   Calls Tryz.prog 48 #[.string (ratB q)] w (Ret w (.agg (cellsT (rootT q)).toArray)):=by
 have h1:=fun w R=>rroot_any q w R (hq.mono (by decide))
 unfold rootT
 cases h:(sqB q.num && sqB q.den) with
 | true =>
   rw [h] at h1
   rw [if_pos rfl]
   show Calls _ _ _ _ fun e w' => e = .returned (.agg #[.string (ratB (rootQ q)),.string (itoaB ((1:Nat):Int))])∧_
   rw [show ((1:Nat):Int)=1 from rfl,itoa_one]
   exact rootsOf_yes _ _ h1 w R
 | false =>
   rw [h] at h1
   rw [if_neg (by decide)]
   show Calls _ _ _ _ fun e w' => e = .returned (.agg #[.string (ratB (Rat.divInt 1 q.den)),.string (itoaB ((q.num.toNat*q.den:Nat):Int))])∧_
   have e1:((q.num.toNat*q.den:Nat):Int)=q.num*q.den:=by rw [Int.natCast_mul,Int.toNat_of_nonneg (by omega)]
   rw [e1]
   have hd:(q.den:Int)≠0:=by have:=q.den_pos;omega
   exact rootsOf_no _ _ _ _ _ _ h1 (fun w R=>rparts_any q w R (hq.mono (by decide))) (fun w R=>by
     have:=rnew_any 1 q.den w R (by decide +kernel) (Nat.le_trans hq.2 (by decide)) hd
     rwa [itoa_one] at this) (fun w R=>mul_any q.num q.den w R.env (Nat.le_trans hq.1 (by decide)) (Nat.le_trans hq.2 (by decide))) w R
def RetS (w:World) (ts:List Tm) (v:Int) (e:Ending) (w':World):Prop:=
 ∃ (p:Option Addr) (n c:Nat),e = .returned (.tuple #[.slice p n c,.int .i64 v])∧n=ts.length∧n≤c∧c≤1000000∧HasT w' p ts∧Below w.heap.size w w'
theorem RetS.mk {w:World} {ts:List Tm} {v:Int} {w':World} (p:Option Addr) (n c:Nat) (h1:n=ts.length) (h2:n≤c) (h3:c≤1000000) (h4:HasT w' p ts) (h5:Below w.heap.size w w'):RetS w ts v (.returned (.tuple #[.slice p n c,.int .i64 v])) w':=⟨p,n,c,rfl,h1,h2,h3,h4,h5⟩
theorem RetS.none {w:World} (v:Int) {w':World} (h5:Below w.heap.size w w'):RetS w [] v (.returned (.tuple #[.slice none 0 0,.int .i64 v])) w':=⟨_,_,_,rfl,rfl,by decide,by decide,HasT.nil _ _,h5⟩
theorem of_minus (s:ByteArray) (h1:CR 45 #[.string s] (.int .i64 0)) (h2:CR 46 #[.string s] (.int .i64 (-1))) (w:World) (R:EnvR w) :
   Calls Tryz.prog 14 #[.string s] w (RetS w [] 3):=by
 have C1:=Lib.hid h1
 have C2:=Lib.hid h2
 clear h1 h2
 have hb:=Below.refl w.heap.size w
 go_enter Tryz.func14,Tryz.ntmps14
 go_wp2_with ((first | (go_at_call 45;with_reducible refine (chRA hb R C1).mono ?_) | (go_at_call 46;with_reducible refine (chRA hb R C2).mono ?_));clear hb;rintro e w1 ⟨rfl,hb⟩)
 go_ret2
 exact RetS.none _ hb
theorem of_zero (s:ByteArray) (e0:(s.toList == [48])=true) (h1:CR 45 #[.string s] (.int .i64 0)) (h2:CR 46 #[.string s] (.int .i64 0)) (w:World) (R:EnvR w) :
   Calls Tryz.prog 14 #[.string s] w (RetS w [] 0):=by
 have C1:=Lib.hid h1
 have C2:=Lib.hid h2
 clear h1 h2
 have hb:=Below.refl w.heap.size w
 go_enter Tryz.func14,Tryz.ntmps14
 go_wp2_with ((first | (go_at_call 45;with_reducible refine (chRA hb R C1).mono ?_) | (go_at_call 46;with_reducible refine (chRA hb R C2).mono ?_));clear hb;rintro e w1 ⟨rfl,hb⟩)
 go_ret2
 exact RetS.none _ hb
def OfEnd (w:World) (a b:ByteArray) (L:Bool) (e:Ending) (w':World):Prop:=
 ∃ B,e = .returned (.tuple #[if L then .slice none 0 0 else .slice (some ⟨B,0,none⟩) 1 1,.int .i64 (if L then 4 else 0)])∧w'.heap[B]? = some (.cells #[.string a,.string b] 58 (0,0))∧Below w.heap.size w w'
theorem of_plus (s a b:ByteArray) (L:Bool) (e0:(s.toList == [48])=false) (h1:CR 45 #[.string s] (.int .i64 0)) (h2:CR 46 #[.string s] (.int .i64 1))
   (h3:CR 48 #[.string s] (.agg #[.string a,.string b]))
   (h4:∀ (B:Nat) w,EnvR w→w.heap[B]? = some (.cells #[.string a,.string b] 58 (0,0))→Calls Tryz.prog 47 #[.slice (some ⟨B,0,none⟩) 1 1] w (Ret w (.tuple #[if L then .slice none 0 0 else .slice (some ⟨B,0,none⟩) 1 1,.int .i64 (if L then 4 else 0)]))) (w:World) (R:EnvR w) :
   Calls Tryz.prog 14 #[.string s] w (OfEnd w a b L):=by
 have C1:=Lib.hid h1
 have C2:=Lib.hid h2
 have C3:=Lib.hid h3
 clear h1 h2 h3
 have hb:=Below.refl w.heap.size w
 cases L with
 | true =>
   have C4:=Lib.hid h4
   clear h4
   simp only [if_true] at C4
   go_enter Tryz.func14,Tryz.ntmps14
   go_wp2_with (first | ((first | (go_at_call 45;with_reducible refine (chRA hb R C1).mono ?_) | (go_at_call 46;with_reducible refine (chRA hb R C2).mono ?_) | (go_at_call 48;with_reducible refine (chRA hb R C3).mono ?_));clear hb;rintro e w1 ⟨rfl,hb⟩) | (go_at_call 47;refine calls_alloc1 (fun wq hq hbq=>?_);have hb2:=hb.trans (hbq.mono hb.size);(with_reducible refine (zK hb2 (C4.out _ _ (R.below hb2) hq)).mono ?_);clear hb hb2;rintro e w2 ⟨rfl,hk,hb⟩;replace hq:=blk_below hk hq;clear hk))
   go_ret2
   exact ⟨_,rfl,hq,hb⟩
 | false =>
   have C4:=Lib.hid h4
   clear h4
   simp only [if_false,Bool.false_eq_true] at C4
   go_enter Tryz.func14,Tryz.ntmps14
   go_wp2_with (first | ((first | (go_at_call 45;with_reducible refine (chRA hb R C1).mono ?_) | (go_at_call 46;with_reducible refine (chRA hb R C2).mono ?_) | (go_at_call 48;with_reducible refine (chRA hb R C3).mono ?_));clear hb;rintro e w1 ⟨rfl,hb⟩) | (go_at_call 47;refine calls_alloc1 (fun wq hq hbq=>?_);have hb2:=hb.trans (hbq.mono hb.size);(with_reducible refine (zK hb2 (C4.out _ _ (R.below hb2) hq)).mono ?_);clear hb hb2;rintro e w2 ⟨rfl,hk,hb⟩;replace hq:=blk_below hk hq;clear hk))
   go_ret2
   exact ⟨_,rfl,hq,hb⟩
def ofT (q:Rat):List Tm × Int:=
 if q.num < 0 then ([],3) else if q=0 then ([],0) else if longT [rootT q] then ([],4) else ([rootT q],0)
theorem dlen_natc (a b K M:Nat) (hK:0 < K+M) (ha:dlen (a:Int)≤K) (hb:dlen (b:Int)≤M):dlen ((a*b:Nat):Int)≤K+M:=by
 rw [Int.natCast_mul];exact dlen_mul _ _ K M hK ha hb
theorem rl_inv (d K:Nat) (hK:1≤K) (hd:0 < d) (h:dlen (d:Int)≤K):RL (Rat.divInt 1 d) K:=by
 obtain ⟨m1,m2⟩:=mk_parts 1 (d:Int) (by omega)
 rw [show Nat.gcd (1:Int).natAbs (d:Int).natAbs=1 from Nat.gcd_one_left _] at m1 m2
 refine ⟨?_,?_⟩
 · rw [m1,show (1:Int) / ((1:Nat):Int)=1 from rfl]
   exact Nat.le_trans (by decide +kernel) hK
 · rw [m2,show ((1:Nat):Int)=1 from rfl,Int.ediv_one];exact h
theorem root_fit {q:Rat} (h0:0 < q.num) (hq:RL q 4000):fitT (rootT q):=by
 have hd:=q.den_pos
 unfold rootT
 split
 · rename_i h
   rw [Bool.and_eq_true] at h
   obtain ⟨e1,e2⟩:=rootQ_parts h.1 h.2
   refine ⟨⟨?_,?_⟩,by show dlen ((1:Nat):Int)≤10000;decide +kernel⟩
   · rw [e1];exact Nat.le_trans (rootN_dlen _ 4000 (by decide) (by rw [Int.toNat_of_nonneg (by omega)];exact hq.1)) (by decide)
   · rw [e2];exact Nat.le_trans (rootN_dlen _ 4000 (by decide) hq.2) (by decide)
 · refine ⟨(rl_inv q.den 4000 (by decide) hd hq.2).mono (by decide),?_⟩
   exact Nat.le_trans (dlen_natc _ _ 4000 4000 (by decide) (by rw [Int.toNat_of_nonneg (by omega)];exact hq.1) hq.2) (by decide)
theorem of_rat (q:Rat) (hq:RL q 200) (w:World) (R:EnvR w) :
   Calls Tryz.prog 14 #[.string (ratB q)] w (RetS w (ofT q).1 (ofT q).2):=by
 have h1:CR 45 #[.string (ratB q)] (.int .i64 0):=fun w R=>by
   have:=rcheck_rat q (hq.mono (by decide)) w R
   rwa [rlB_iff.2 hq] at this
 have h2:=fun w R=>rsign_any q (hq.mono (by decide)) w R
 unfold ofT
 by_cases hn:q.num < 0
 · rw [if_pos hn]
   rw [Int.sign_eq_neg_one_of_neg hn] at h2
   exact of_minus _ h1 h2 w R
 · rw [if_neg hn]
   by_cases h0:q=0
   · rw [if_pos h0]
     subst h0
     exact of_zero _ (by rw [ratB_eq_zero];rfl) h1 h2 w R
   · rw [if_neg h0]
     have hp:0 < q.num:=by
       have:q.num≠0:=fun e=>h0 (Rat.num_eq_zero.1 e)
       omega
     rw [Int.sign_eq_one_of_pos hp] at h2
     have hq4:RL q 4000:=hq.mono (by decide)
     have:=of_plus (ratB q) (ratB (rootT q).1) (itoaB ((rootT q).2:Int)) (longT [rootT q]) (by rw [ratB_eq_zero];simpa using h0) h1 h2 (fun w R=>rootsOf_any q hp hq4 w R) (fun B w R hB=>result_any _ 1 1 [rootT q] rfl (by decide) (by simp;exact root_fit hp hq4) w R (HasT.one hB)) w R
     refine this.mono fun e w' ⟨B,he,hB,hb⟩=>?_
     cases hL:longT [rootT q] with
     | true=>rw [hL] at he;rw [he];exact RetS.none _ hb
     | false=>rw [hL] at he;rw [he];exact RetS.mk _ _ _ rfl (by decide) (by decide) (HasT.one hB) hb
end Go.Proofs.YtpphjnekkjeacaaGreatDoor.Kl
