import Derived.Test.YtejfiegmdllfbaaGreatDoorKlBFreeZ
import Derived.Test.YtejfiegmdllfbaaGreatDoorKlBRatEZ
namespace Go.Proofs.YtejfiegmdllfbaaGreatDoor.Kl
open Go Go.Sort Go.RowKit
set_option maxRecDepth 100000
set_option maxHeartbeats 8000000
theorem zB {w w':World} {k:Nat} {o:Obj} (hk:Below w.heap.size w w') (h:w.heap[k]? = some o):w'.heap[k]? = some o:=by
 rw [hk.block k (Array.getElem?_eq_some_iff.1 h).1];exact h
theorem zF {w w':World} {k i:Nat} {o:Obj} (hk:Below w.heap.size w w') (h:w.heap[k]? = some o) (f:w.frozen? ⟨k,i,none⟩=false):w'.frozen? ⟨k,i,none⟩=false:=by
 rw [hk.frozen (p:=⟨k,i,none⟩) (Array.getElem?_eq_some_iff.1 h).1];exact f
theorem zK {P:Program} {K:FuncId} {args:Array Value} {w w0:World} {v:Value} (hb:Below w0.heap.size w0 w)
   (h:Calls P K args w fun e w' => e = .returned v∧Below w.heap.size w w'):Calls P K args w fun e w' => e = .returned v∧Below w.heap.size w w'∧Below w0.heap.size w0 w':=
 h.mono fun _ _ ⟨a,b⟩=>⟨a,b,hb.trans (b.mono hb.size)⟩
theorem chRB {f:FuncId} {args:Array Value} {v:Value} {w0 w:World} (hb:Below w0.heap.size w0 w) (R:EnvR w0) (C:Hid (∀ w,EnvR w→Calls Tryz.prog f args w (Ret w v))):Calls Tryz.prog f args w fun e w' => e = .returned v∧Below w.heap.size w w'∧Below w0.heap.size w0 w':=zK hb (C.out _ (R.below hb))
theorem zL {P:Program} {K:FuncId} {args:Array Value} {w wa w0:World} {v:Value} (hb:Below w0.heap.size w0 w)
   (h:Calls P K args wa fun e w' => e = .returned v∧Below w.heap.size w w'):Calls P K args wa fun e w' => e = .returned v∧Below w.heap.size w w'∧Below w0.heap.size w0 w':=
 h.mono fun _ _ ⟨he,hb2⟩=>⟨he,hb2,hb.trans (hb2.mono hb.size)⟩
theorem laid1 (w:World) (o0:Obj):(w.alloc o0).heap[w.heap.size]? = some o0∧Below w.heap.size w (w.alloc o0):=⟨World.alloc_heap_new w o0,(Below.refl _ _).alloc (Nat.le_refl _) _⟩
theorem calls_alloc1 {P:Program} {K:FuncId} {args:Array Value} {Q:Ending→World→Prop} {w:World} {o0:Obj} (h:∀ wq:World,wq.heap[w.heap.size]? = some o0→Below w.heap.size w wq→Calls P K args wq Q):Calls P K args (w.alloc o0) Q:=
 h _ (laid1 w o0).1 (laid1 w o0).2
theorem wp_alloc1 {P:Program} {c:Code} {Q:Exit→Act→World→Prop} {a:Act} {w:World} {o0:Obj} (h:∀ wq:World,wq.heap[w.heap.size]? = some o0→Below w.heap.size w wq→c.wp P Q a wq):c.wp P Q a (w.alloc o0):=
 h _ (laid1 w o0).1 (laid1 w o0).2
theorem laid2 (w:World) (o0 o1:Obj):((w.alloc o0).alloc o1).heap[w.heap.size]? = some o0∧((w.alloc o0).alloc o1).heap[w.heap.size+1]? = some o1∧Below w.heap.size w ((w.alloc o0).alloc o1):=by
 have hz:(w.alloc o0).heap.size=w.heap.size+1:=by simp only [World.size_alloc]
 obtain ⟨a0,hb⟩:=laid1 w o0
 have an:=World.alloc_heap_new (w.alloc o0) o1
 rw [hz] at an
 exact ⟨(Below.heap_alloc _ _ _ (by rw [hz];omega)).trans a0,an,hb.alloc hb.size _⟩
theorem wp_alloc2 {P:Program} {c:Code} {Q:Exit→Act→World→Prop} {a:Act} {w:World} {o0 o1:Obj} (h:∀ wq:World,wq.heap[w.heap.size]? = some o0→wq.heap[w.heap.size+1]? = some o1→Below w.heap.size w wq→c.wp P Q a wq):c.wp P Q a ((w.alloc o0).alloc o1):=
 h _ (laid2 w o0 o1).1 (laid2 w o0 o1).2.1 (laid2 w o0 o1).2.2
theorem laid3 (w:World) (o0 o1 o2:Obj):(((w.alloc o0).alloc o1).alloc o2).heap[w.heap.size]? = some o0∧(((w.alloc o0).alloc o1).alloc o2).heap[w.heap.size+1]? = some o1∧(((w.alloc o0).alloc o1).alloc o2).heap[w.heap.size+2]? = some o2∧Below w.heap.size w (((w.alloc o0).alloc o1).alloc o2):=by
 have hz:((w.alloc o0).alloc o1).heap.size=w.heap.size+2:=by simp only [World.size_alloc]
 obtain ⟨a0,a1,hb⟩:=laid2 w o0 o1
 have an:=World.alloc_heap_new ((w.alloc o0).alloc o1) o2
 rw [hz] at an
 exact ⟨(Below.heap_alloc _ _ _ (by rw [hz];omega)).trans a0,(Below.heap_alloc _ _ _ (by rw [hz];omega)).trans a1,an,hb.alloc hb.size _⟩
theorem wp_alloc3 {P:Program} {c:Code} {Q:Exit→Act→World→Prop} {a:Act} {w:World} {o0 o1 o2:Obj} (h:∀ wq:World,wq.heap[w.heap.size]? = some o0→wq.heap[w.heap.size+1]? = some o1→wq.heap[w.heap.size+2]? = some o2→Below w.heap.size w wq→c.wp P Q a wq):c.wp P Q a (((w.alloc o0).alloc o1).alloc o2):=
 h _ (laid3 w o0 o1 o2).1 (laid3 w o0 o1 o2).2.1 (laid3 w o0 o1 o2).2.2.1 (laid3 w o0 o1 o2).2.2.2
theorem laid4 (w:World) (o0 o1 o2 o3:Obj):((((w.alloc o0).alloc o1).alloc o2).alloc o3).heap[w.heap.size]? = some o0∧((((w.alloc o0).alloc o1).alloc o2).alloc o3).heap[w.heap.size+1]? = some o1∧((((w.alloc o0).alloc o1).alloc o2).alloc o3).heap[w.heap.size+2]? = some o2∧((((w.alloc o0).alloc o1).alloc o2).alloc o3).heap[w.heap.size+3]? = some o3∧Below w.heap.size w ((((w.alloc o0).alloc o1).alloc o2).alloc o3):=by
 have hz:(((w.alloc o0).alloc o1).alloc o2).heap.size=w.heap.size+3:=by simp only [World.size_alloc]
 obtain ⟨a0,a1,a2,hb⟩:=laid3 w o0 o1 o2
 have an:=World.alloc_heap_new (((w.alloc o0).alloc o1).alloc o2) o3
 rw [hz] at an
 exact ⟨(Below.heap_alloc _ _ _ (by rw [hz];omega)).trans a0,(Below.heap_alloc _ _ _ (by rw [hz];omega)).trans a1,(Below.heap_alloc _ _ _ (by rw [hz];omega)).trans a2,an,hb.alloc hb.size _⟩
theorem wp_alloc4 {P:Program} {c:Code} {Q:Exit→Act→World→Prop} {a:Act} {w:World} {o0 o1 o2 o3:Obj} (h:∀ wq:World,wq.heap[w.heap.size]? = some o0→wq.heap[w.heap.size+1]? = some o1→wq.heap[w.heap.size+2]? = some o2→wq.heap[w.heap.size+3]? = some o3→Below w.heap.size w wq→c.wp P Q a wq):c.wp P Q a ((((w.alloc o0).alloc o1).alloc o2).alloc o3):=
 h _ (laid4 w o0 o1 o2 o3).1 (laid4 w o0 o1 o2 o3).2.1 (laid4 w o0 o1 o2 o3).2.2.1 (laid4 w o0 o1 o2 o3).2.2.2.1 (laid4 w o0 o1 o2 o3).2.2.2.2
end Go.Proofs.YtejfiegmdllfbaaGreatDoor.Kl
namespace Go.Proofs.YtejfiegmdllfbaaGreatDoor.Kl
open Go Go.RowKit
set_option maxRecDepth 100000
set_option maxHeartbeats 8000000
def RN (q:Rat) (n d:Nat):Prop:=dlen q.num≤n∧dlen (q.den:Int)≤d
theorem RN.rl {q:Rat} {n d K:Nat} (h:RN q n d) (h1:n≤K:=by decide) (h2:d≤K:=by decide):RL q K:=⟨Nat.le_trans h.1 h1,Nat.le_trans h.2 h2⟩
theorem RN.r2 {q:Rat} {n d:Nat} (h:RN q n d) (h1:n≤200:=by decide) (h2:d≤200:=by decide):RL q 200:=⟨Nat.le_trans h.1 h1,Nat.le_trans h.2 h2⟩
theorem RN.r4 {q:Rat} {n d:Nat} (h:RN q n d) (h1:n≤400:=by decide) (h2:d≤400:=by decide):RL q 400:=⟨Nat.le_trans h.1 h1,Nat.le_trans h.2 h2⟩
theorem RN.rm {q:Rat} {n d:Nat} (h:RN q n d) (h1:n≤10000:=by decide) (h2:d≤10000:=by decide):RL q 10000:=⟨Nat.le_trans h.1 h1,Nat.le_trans h.2 h2⟩
theorem RN_mk (a b:Int) (n d:Nat) (hn:0 < n) (hd:0 < d) (hb:0 < b) (h1:dlen a≤n) (h2:dlen b≤d):RN (Rat.divInt a b) n d:=by
 obtain ⟨e1,e2⟩:=mk_parts a b hb
 exact ⟨by rw [e1];exact dlen_div _ _ _ hn h1 (gcd_dvd1 ..),by rw [e2];exact dlen_div _ _ _ hd h2 (gcd_dvd2 ..)⟩
theorem RN_mul {p q:Rat} {n d m e:Nat} (hp:RN p n d) (hq:RN q m e) (hn:0 < n+m:=by decide) (hd:0 < d+e:=by decide):RN (p*q) (n+m) (d+e):=by
 rw [← mul_mk]
 have:=Nat.mul_pos p.den_pos q.den_pos
 exact RN_mk _ _ _ _ hn hd (by omega) (dlen_mul _ _ _ _ hn hp.1 hq.1) (by rw [Int.natCast_mul];exact dlen_mul _ _ _ _ hd hp.2 hq.2)
theorem RN_add {p q:Rat} {n d m e N:Nat} (hp:RN p n d) (hq:RN q m e) (hN:0 < N:=by decide) (hd:0 < d+e:=by decide) (h1:n+e≤N:=by decide) (h2:m+d≤N:=by decide):RN (p+q) (N+1) (d+e):=by
 rw [← add_mk]
 have h3:=Nat.mul_pos p.den_pos q.den_pos
 have h4:=dlen_pos p.num
 have h5:=hp.1
 have h6:=dlen_pos q.num
 have h7:=hq.1
 refine RN_mk _ _ _ _ (by omega) hd (by omega) (dlen_add _ _ _ hN (Nat.le_trans (dlen_mul _ _ _ _ (by omega) hp.1 hq.2) h1) (Nat.le_trans (dlen_mul _ _ _ _ (by omega) hq.1 hp.2) h2)) (by rw [Int.natCast_mul];exact dlen_mul _ _ _ _ hd hp.2 hq.2)
theorem RN_neg {q:Rat} {n d:Nat} (h:RN q n d):RN (-q) n d:=⟨by show dlen (-q.num)≤n;rw [dlen_neg];exact h.1,h.2⟩
theorem RN_sub {p q:Rat} {n d m e N:Nat} (hp:RN p n d) (hq:RN q m e) (hN:0 < N:=by decide) (hd:0 < d+e:=by decide) (h1:n+e≤N:=by decide) (h2:m+d≤N:=by decide):RN (p - q) (N+1) (d+e):=by
 rw [Rat.sub_eq_add_neg];exact RN_add hp (RN_neg hq) hN hd h1 h2
theorem RN_inv {q:Rat} {n d:Nat} (h:RN q n d) (h0:q≠0):RN q⁻¹ d n:=by
 have hz:q.num≠0:=mt Rat.num_eq_zero.1 h0
 refine ⟨?_,?_⟩
 · rw [Rat.num_inv]
   have:(q.num.sign*(q.den:Int)).natAbs=(q.den:Int).natAbs:=by
     rw [Int.natAbs_mul,Int.natAbs_sign_of_ne_zero hz,Nat.one_mul]
   have h2:=h.2
   unfold dlen at h2 ⊢;rw [this];exact h2
 · rw [Rat.den_inv,if_neg hz]
   have h1:=h.1
   unfold dlen at h1 ⊢;rwa [Int.natAbs_natCast]
theorem RN_div {p q:Rat} {n d m e:Nat} (hp:RN p n d) (hq:RN q m e) (h0:q≠0) (hn:0 < n+e:=by decide) (hd:0 < d+m:=by decide):RN (p / q) (n+e) (d+m):=by
 rw [Rat.div_def];exact RN_mul hp (RN_inv hq h0) hn hd
theorem rn_0 : RN (0:Rat) 1 1:=by unfold RN;decide +kernel
theorem rn_1 : RN (1:Rat) 1 1:=by unfold RN;decide +kernel
theorem rn_m1 : RN (-1:Rat) 1 1:=by unfold RN;decide +kernel
theorem rb_0 : ratB (0:Rat)=⟨#[48]⟩:=ratB_zero
theorem rb_1 : ratB (1:Rat)=⟨#[49]⟩:=by decide +kernel
theorem rb_m1 : ratB (-1:Rat)=⟨#[45,49]⟩:=by decide +kernel
theorem isRat_of {q:Rat} (h:RL q 200):IsRat (ratB q).data.toList:=⟨q,rfl,h⟩
def firstNZ : List Int→Int
 | [] => 0
 | x :: r=>if x=0 then firstNZ r else x
theorem firstNZ_zero : ∀ (l:List Int),(∀ x,x ∈ l→x=0)→firstNZ l=0
 | [],_=>rfl
 | x :: r,h=>by
   unfold firstNZ
   rw [if_pos (h x (List.mem_cons_self ..))]
   exact firstNZ_zero r (fun y hy=>h y (List.mem_cons_of_mem _ hy))
theorem firstNZ_at : ∀ (l:List Int) (k:Nat) (x:Int),(∀ y,y ∈ l.take k→y=0)→l[k]? = some x→x≠0→firstNZ l=x
 | [],_,_,_,h,_=>by simp at h
 | y :: r,0,x,_,h,hne=>by
   have e:y=x:=by simpa using h
   unfold firstNZ
   rw [if_neg (by rw [e];exact hne),e]
 | y :: r,k+1,x,h0,h,hne=>by
   unfold firstNZ
   rw [if_pos (h0 y (by simp))]
   exact firstNZ_at r k x (fun z hz=>h0 z (by rw [List.take_succ_cons];exact List.mem_cons_of_mem _ hz)) (by simpa using h) hne
theorem numCheck_w (blk n c:Nat) (ts:List ByteArray) (hn:ts.length=n) (_hnb:n≤10) (v:Int) (hv0:(∀ t,t ∈ ts→IsRat t.data.toList)→v=0) (hv2:(∃ t,t ∈ ts∧¬ IsRat t.data.toList)→v=2) (w:World) (R:EnvR w)
   (hm:∀ t,t ∈ ts→t.size≤100000) (hc:∀ (j:Nat) (t:ByteArray),ts[j]? = some t→w.cell? ⟨blk,j,none⟩=some (.string t)) :
   Calls Tryz.prog 114 #[.slice (some ⟨blk,0,none⟩) n c] w (Ret w (.int .i64 v)):=by
 have HC:=Lib.hid hc
 have HM:=Lib.hid hm
 have H0:=Lib.hid hv0
 have H2:=Lib.hid hv2
 have HN:=Lib.hid hn
 clear hc hm hv0 hv2 hn
 go_enter Tryz.func114,Tryz.ntmps114
 go_wp2
 go_loopw [8] (fun i wr=>∃ k:Nat,k≤n∧i = .int .i64 k∧(∀ t,t ∈ ts.take k→IsRat t.data.toList)∧Below w.heap.size w wr) (fun i _=>n - (intOf i).toNat)
 case atStart=>exact ⟨0,Nat.zero_le _,rfl,by simp,Below.refl _ _⟩
 case round =>
   obtain ⟨k,hk,rfl,hall,hb⟩:=hrel
   have HA:=Lib.hid hall
   clear hall
   by_cases hlt:k < n
   · obtain ⟨t,ht⟩:∃ t,ts[k]? = some t:=⟨_,List.getElem?_eq_getElem (by rw [HN.out];exact hlt)⟩
     have x0:wr.cell? ⟨blk,k,none⟩=some (.string t):=zC hb (HC.out k t ht)
     have hmem:t ∈ ts:=List.mem_of_getElem? ht
     have hms:=HM.out t hmem
     have HMEM:=Lib.hid hmem
     have htk:∀ u,u ∈ ts.take (k+1)→u ∈ ts.take k∨u=t:=by
       intro u hu
       rw [List.take_add_one,ht] at hu
       rcases List.mem_append.1 hu with h | h
       · exact Or.inl h
       · exact Or.inr (by simpa using h)
     have HT:=Lib.hid htk
     clear hmem htk ht
     by_cases hi:IsRat t.data.toList
     · have CR:=Lib.hid (fun (w:World) (R:EnvR w)=>rcheck_any t 0 (.inl ⟨hi,rfl⟩) hms w R)
       have HF:Hid (IsRat t.data.toList):=Lib.hid hi
       clear hi
       go_wp2_with (go_at_call 78;with_reducible refine (chRB hb R CR).mono ?_;clear hb;rintro e w1 ⟨rfl,hk2,hb⟩;clear hk2)
       go_roundw
       case rel=>exact ⟨k+1,by omega,by go_num,fun u hu=>(HT.out u hu).elim (HA.out u) (fun e=>e ▸ HF.out),hb⟩
       case measure=>simp [intOf];omega
     · have CR:=Lib.hid (fun (w:World) (R:EnvR w)=>rcheck_any t 2 (.inr ⟨hi,rfl⟩) hms w R)
       have hf:v=2:=H2.out ⟨t,HMEM.out,hi⟩
       clear hi
       go_wp2_with (go_at_call 78;with_reducible refine (chRB hb R CR).mono ?_;clear hb;rintro e w1 ⟨rfl,hk2,hb⟩;clear hk2)
       go_ret
       exact ⟨retI hf.symm,hb⟩
   · have ek:k=n:=by omega
     have ht:v=0:=H0.out (fun t ht=>HA.out t (by rw [List.take_of_length_le (by rw [HN.out];omega)];exact ht))
     go_wp2
     go_ret
     exact ⟨retI ht.symm,hb⟩
set_option maxRecDepth 512 in
theorem numCheck2 (a b:ByteArray) (v:Int) (hv0:(IsRat a.data.toList∧IsRat b.data.toList)→v=0) (hv2:¬ (IsRat a.data.toList∧IsRat b.data.toList)→v=2) (za:a.size≤100000) (zb:b.size≤100000) (w:World) (R:EnvR w) :
   Calls Tryz.prog 114 #[.slice (some ⟨w.heap.size,0,none⟩) 2 2] (w.alloc (Obj.cells #[Value.string a,Value.string b] 22)) (Ret w (.int .i64 v)):=by
 have hba:Below w.heap.size w (w.alloc (Obj.cells #[Value.string a,Value.string b] 22)):=(Below.refl _ _).alloc (Nat.le_refl _) _
 refine (numCheck_w w.heap.size 2 2 [a,b] rfl (by decide) v (fun h=>hv0 (by simpa using h)) (fun ⟨t,h1,h2⟩=>hv2 (fun h=>h2 ?_)) _ (R.below hba) (by simp;exact ⟨za,zb⟩) ?_).mono fun e w' h=>⟨h.1,hba.trans (h.2.mono hba.size)⟩
 · simp only [List.mem_cons,List.not_mem_nil,or_false] at h1
   rcases h1 with rfl | rfl
   · exact h.1
   · exact h.2
 intro j t h
 match j,h with
 | 0,h=>injection h with h;subst h;simp [go_sem]
 | 1,h=>injection h with h;subst h;simp [go_sem]
 | j+2,h=>simp at h
set_option maxRecDepth 512 in
theorem numCheck3 (a b c:ByteArray) (v:Int) (hv0:(IsRat a.data.toList∧IsRat b.data.toList∧IsRat c.data.toList)→v=0) (hv2:¬ (IsRat a.data.toList∧IsRat b.data.toList∧IsRat c.data.toList)→v=2) (za:a.size≤100000) (zb:b.size≤100000) (zc:c.size≤100000) (w:World) (R:EnvR w) :
   Calls Tryz.prog 114 #[.slice (some ⟨w.heap.size,0,none⟩) 3 3] (w.alloc (Obj.cells #[Value.string a,Value.string b,Value.string c] 22)) (Ret w (.int .i64 v)):=by
 have hba:Below w.heap.size w (w.alloc (Obj.cells #[Value.string a,Value.string b,Value.string c] 22)):=(Below.refl _ _).alloc (Nat.le_refl _) _
 refine (numCheck_w w.heap.size 3 3 [a,b,c] rfl (by decide) v (fun h=>hv0 (by simpa using h)) (fun ⟨t,h1,h2⟩=>hv2 (fun h=>h2 ?_)) _ (R.below hba) (by simp;exact ⟨za,zb,zc⟩) ?_).mono fun e w' h=>⟨h.1,hba.trans (h.2.mono hba.size)⟩
 · simp only [List.mem_cons,List.not_mem_nil,or_false] at h1
   rcases h1 with rfl | rfl | rfl
   · exact h.1
   · exact h.2.1
   · exact h.2.2
 intro j t h
 match j,h with
 | 0,h=>injection h with h;subst h;simp [go_sem]
 | 1,h=>injection h with h;subst h;simp [go_sem]
 | 2,h=>injection h with h;subst h;simp [go_sem]
 | j+3,h=>simp at h
theorem orErr_w (blk n c:Nat) (ts:List Int) (hn:ts.length=n) (_hnb:n≤20) (v:Int) (hv:firstNZ ts=v) (w:World) (hc:∀ (j:Nat) (t:Int),ts[j]? = some t→w.cell? ⟨blk,j,none⟩=some (.int .i64 t)) :
   Calls Tryz.prog 68 #[.slice (some ⟨blk,0,none⟩) n c] w (Ret w (.int .i64 v)):=by
 have HC:=Lib.hid hc
 have HV:=Lib.hid hv
 have HN:=Lib.hid hn
 clear hc hv hn
 go_enter Tryz.func68,Tryz.ntmps68
 go_wp2
 go_loopw [8] (fun i wr=>∃ k:Nat,k≤n∧i = .int .i64 k∧(∀ t,t ∈ ts.take k→t=0)∧Below w.heap.size w wr) (fun i _=>n - (intOf i).toNat)
 case atStart=>exact ⟨0,Nat.zero_le _,rfl,by simp,Below.refl _ _⟩
 case round =>
   obtain ⟨k,hk,rfl,hall,hb⟩:=hrel
   have HA:=Lib.hid hall
   clear hall
   by_cases hlt:k < n
   · obtain ⟨t,ht⟩:∃ t,ts[k]? = some t:=⟨_,List.getElem?_eq_getElem (by rw [HN.out];exact hlt)⟩
     have x0:wr.cell? ⟨blk,k,none⟩=some (.int .i64 t):=zC hb (HC.out k t ht)
     have HT:=Lib.hid ht
     clear ht
     by_cases hz:t=0
     · have HF:=Lib.hid hz
       go_wp2
       go_roundw
       case rel =>
         refine ⟨k+1,by omega,by go_num,fun u hu=>?_,hb⟩
         rw [List.take_add_one,HT.out] at hu
         rcases List.mem_append.1 hu with h | h
         · exact HA.out u h
         · have:u=t:=by simpa using h
           rw [this];exact HF.out
       case measure=>simp [intOf];omega
     · have HF2:t=v:=(firstNZ_at ts k t HA.out HT.out hz).symm.trans HV.out
       have HG:=Lib.hid HF2
       clear HF2
       go_wp2
       go_ret
       exact ⟨retI HG.out,hb⟩
   · have ek:k=n:=by omega
     have HG:Hid (0=v):=Lib.hid (by rw [← HV.out];symm;exact firstNZ_zero ts (fun t ht=>HA.out t (by rw [List.take_of_length_le (by rw [HN.out];omega)];exact ht)))
     go_wp2
     go_ret
     exact ⟨retI HG.out,hb⟩
set_option maxRecDepth 512 in
theorem orErr2 (a0 a1:Int) (v:Int) (hv:firstNZ [a0,a1]=v) (w:World) (_R:EnvR w) :
   Calls Tryz.prog 68 #[.slice (some ⟨w.heap.size,0,none⟩) 2 2] (w.alloc (Obj.cells #[Value.int .i64 a0,Value.int .i64 a1] 27)) (Ret w (.int .i64 v)):=by
 have hba:Below w.heap.size w (w.alloc (Obj.cells #[Value.int .i64 a0,Value.int .i64 a1] 27)):=(Below.refl _ _).alloc (Nat.le_refl _) _
 refine (orErr_w w.heap.size 2 2 [a0,a1] rfl (by decide) v hv _ ?_).mono fun e w' h=>⟨h.1,hba.trans (h.2.mono hba.size)⟩
 intro j t h
 match j,h with
 | 0,h=>injection h with h;subst h;simp [go_sem]
 | 1,h=>injection h with h;subst h;simp [go_sem]
 | j+2,h=>simp at h
set_option maxRecDepth 512 in
theorem orErr3 (a0 a1 a2:Int) (v:Int) (hv:firstNZ [a0,a1,a2]=v) (w:World) (_R:EnvR w) :
   Calls Tryz.prog 68 #[.slice (some ⟨w.heap.size,0,none⟩) 3 3] (w.alloc (Obj.cells #[Value.int .i64 a0,Value.int .i64 a1,Value.int .i64 a2] 27)) (Ret w (.int .i64 v)):=by
 have hba:Below w.heap.size w (w.alloc (Obj.cells #[Value.int .i64 a0,Value.int .i64 a1,Value.int .i64 a2] 27)):=(Below.refl _ _).alloc (Nat.le_refl _) _
 refine (orErr_w w.heap.size 3 3 [a0,a1,a2] rfl (by decide) v hv _ ?_).mono fun e w' h=>⟨h.1,hba.trans (h.2.mono hba.size)⟩
 intro j t h
 match j,h with
 | 0,h=>injection h with h;subst h;simp [go_sem]
 | 1,h=>injection h with h;subst h;simp [go_sem]
 | 2,h=>injection h with h;subst h;simp [go_sem]
 | j+3,h=>simp at h
theorem trimP_itoa (n:Int) (w:World):Calls Tryz.prog 144 #[.string (itoaB n),.string ⟨#[45]⟩] w (Ret w (.string (itoaB n.natAbs))):=
 (trimPrefix_call _ _ w).mono fun e w' h=>⟨h.1.trans (by
   show Ending.returned (.string ⟨(Lib.trimPrefix (Lib.itoa n) [45]).toArray⟩)=_
   rw [trimPrefix_minus,mag_itoa]
   unfold itoaB strOf
   rw [itoa_nat _ (by omega),Int.toNat_natCast]),by rw [← h.2];exact Below.refl _ _⟩
theorem natB_size (n:Nat):(itoaB (n:Int)).size=dlen n:=by
 unfold itoaB;rw [strOf_size,itoa_len,if_neg (by omega)];omega
theorem isLong_short (s:ByteArray) (h:s.size≤200) (w:World) (_R:EnvR w) :
   Calls Tryz.prog 106 #[.string s] w (Ret w (.bool false)):=by
 have hb:=Below.refl w.heap.size w
 go_enter Tryz.func106,Tryz.ntmps106
 go_wp2
 go_ret
 exact ⟨rfl,hb⟩
theorem isLong_long (q:Rat) (hq:RL q 200) (h:200 < (ratB q).size) (w:World) (R:EnvR w) :
   Calls Tryz.prog 106 #[.string (ratB q)] w (Ret w (.bool false)):=by
 have c1:=fun (w:World) (R:EnvR w)=>rparts_any q w R (hq.mono (by decide))
 have c2:=fun (w:World) (R:EnvR w)=>trimP_itoa q.num w
 have hsz:200 < (ratB q).size:=h
 have hn:(itoaB (q.num.natAbs:Int)).size≤200:=by rw [natB_size];have:=hq.1;unfold dlen at this ⊢;simpa using this
 have hd:(itoaB (q.den:Int)).size≤200:=by rw [natB_size];exact hq.2
 obtain ⟨n,en⟩:∃ v,itoaB q.num=v:=⟨_,rfl⟩
 try simp only [en] at c1 c2 hsz hn hd ⊢
 obtain ⟨m,em⟩:∃ v,itoaB (q.num.natAbs:Int)=v:=⟨_,rfl⟩
 try simp only [em] at c1 c2 hsz hn hd ⊢
 obtain ⟨d,ed⟩:∃ v,itoaB (q.den:Int)=v:=⟨_,rfl⟩
 try simp only [ed] at c1 c2 hsz hn hd ⊢
 obtain ⟨s,es⟩:∃ v,ratB q=v:=⟨_,rfl⟩
 try simp only [es] at c1 c2 hsz hn hd ⊢
 have C1:=Lib.hid c1
 have C2:=Lib.hid c2
 clear c1 c2 en em ed es hq h
 have hb:=Below.refl w.heap.size w
 go_enter Tryz.func106,Tryz.ntmps106
 go_wp2_with ((first | (go_at_call 48;with_reducible refine (chRA hb R C1).mono ?_) | (go_at_call 144;with_reducible refine (chRA hb R C2).mono ?_));clear hb;rintro e w1 ⟨rfl,hb⟩)
 go_ret
 exact ⟨retB (decide_eq_false (by omega)),hb⟩
theorem isLong_any (q:Rat) (hq:RL q 200) (w:World) (R:EnvR w) :
   Calls Tryz.prog 106 #[.string (ratB q)] w (Ret w (.bool false)):=by
 by_cases h:(ratB q).size≤200
 · exact isLong_short _ h w R
 · exact isLong_long q hq (by omega) w R
theorem indexLong_w (blk n c:Nat) (ts:List ByteArray) (hn:ts.length=n) (hnb:n≤20) (w:World) (R:EnvR w)
   (hm:∀ t,t ∈ ts→∃ q:Rat,t=ratB q∧RL q 200) (hc:∀ (j:Nat) (t:ByteArray),ts[j]? = some t→w.cell? ⟨blk,j,none⟩=some (.string t)) :
   Calls Tryz.prog 143 #[.slice (some ⟨blk,0,none⟩) n c,.func (Fn.func 106) #[] #[]] w (Ret w (.int .i64 (-1))):=by
 have HC:=Lib.hid hc
 have HM:=Lib.hid hm
 have HN:=Lib.hid hn
 clear hc hm hn
 go_enter Tryz.func143,Tryz.ntmps143
 go_wp2
 go_loopw [8] (fun i wr=>∃ k:Nat,k≤n∧i = .int .i64 k∧Below w.heap.size w wr) (fun i _=>n - (intOf i).toNat)
 case atStart=>exact ⟨0,Nat.zero_le _,rfl,Below.refl _ _⟩
 case round =>
   obtain ⟨k,hk,rfl,hb⟩:=hrel
   by_cases hlt:k < n
   · obtain ⟨t,ht⟩:∃ t,ts[k]? = some t:=⟨_,List.getElem?_eq_getElem (by rw [HN.out];exact hlt)⟩
     have x0:wr.cell? ⟨blk,k,none⟩=some (.string t):=zC hb (HC.out k t ht)
     have CR:Hid (CR 106 #[.string t] (.bool false)):=by
       obtain ⟨q,e,hq⟩:=HM.out t (List.mem_of_getElem? ht)
       exact Lib.hid (fun w R=>by rw [e];exact isLong_any q hq w R)
     clear ht
     go_wp2_with (go_at_call 106;with_reducible refine (chRB hb R CR).mono ?_;clear hb;rintro e w1 ⟨rfl,hk2,hb⟩;clear hk2)
     go_roundw
     case rel=>exact ⟨k+1,by omega,by go_num,hb⟩
     case measure=>simp [intOf];omega
   · have ek:k=n:=by omega
     go_wp2
     go_ret
     exact ⟨rfl,hb⟩
theorem containsLong_w (blk n c:Nat) (ts:List ByteArray) (hn:ts.length=n) (hnb:n≤20) (w:World) (R:EnvR w)
   (hm:∀ t,t ∈ ts→∃ q:Rat,t=ratB q∧RL q 200) (hc:∀ (j:Nat) (t:ByteArray),ts[j]? = some t→w.cell? ⟨blk,j,none⟩=some (.string t)) :
   Calls Tryz.prog 105 #[.slice (some ⟨blk,0,none⟩) n c,.func (Fn.func 106) #[] #[]] w (Ret w (.bool false)):=by
 have C1:=Lib.hid (indexLong_w blk n c ts hn hnb w R hm hc)
 clear hm hc hn
 have hb:=Below.refl w.heap.size w
 go_enter Tryz.func105,Tryz.ntmps105
 go_wp2_with (go_at_call 143;(with_reducible refine (zK hb C1.out).mono ?_);clear hb;rintro e w1 ⟨rfl,hk,hb⟩;clear hk)
 go_ret
 exact ⟨rfl,hb⟩
theorem resR_w (w:World) (R:EnvR w) (s0:ByteArray) (blk n c:Nat) (h:∀ w0:World,Below w.heap.size w w0→EnvR w0→Calls Tryz.prog 105 #[.slice (some ⟨blk,0,none⟩) n c,.func (Fn.func 106) #[] #[]] w0 fun e w' => e = .returned (.bool false)∧Below w0.heap.size w0 w') :
   Calls Tryz.prog 113 #[.string s0,.slice (some ⟨blk,0,none⟩) n c] w (Ret w (.tuple #[.string s0,.int .i64 0])):=by
 have H:=Lib.hid h
 clear h
 have hb:=Below.refl w.heap.size w
 go_enter Tryz.func113,Tryz.ntmps113
 go_wp2_with (go_at_call 105;(with_reducible refine (zK hb (H.out _ hb (R.below hb))).mono ?_);clear hb;rintro e w1 ⟨rfl,hk,hb⟩;clear hk)
 first | go_ret | go_ret2 | go_ret3
 exact ⟨rfl,hb⟩
set_option maxRecDepth 512 in
theorem resR (s0 t0:ByteArray) (hm:∀ t,t ∈ [t0]→∃ q:Rat,t=ratB q∧RL q 200) (w:World) (R:EnvR w) :
   Calls Tryz.prog 113 #[.string s0,.slice (some ⟨w.heap.size,0,none⟩) 1 1] (w.alloc (Obj.cells #[Value.string t0] 22)) (Ret w (.tuple #[.string s0,.int .i64 0])):=by
 have hba:Below w.heap.size w (w.alloc (Obj.cells #[Value.string t0] 22)):=(Below.refl _ _).alloc (Nat.le_refl _) _
 refine (resR_w _ (R.below hba) s0 w.heap.size 1 1 (fun w0 hb R0=>containsLong_w w.heap.size 1 1 [t0] rfl (by decide) w0 R0 hm ?_)).mono fun e w' h=>⟨h.1,hba.trans (h.2.mono hba.size)⟩
 intro j t h
 refine zC hb ?_
 match j,h with
 | 0,h=>injection h with h;subst h;simp [go_sem]
 | j+1,h=>simp at h
theorem resV_w (w:World) (R:EnvR w) (s0 s1 s2:ByteArray) (blk n c:Nat) (h:∀ w0:World,Below w.heap.size w w0→EnvR w0→Calls Tryz.prog 105 #[.slice (some ⟨blk,0,none⟩) n c,.func (Fn.func 106) #[] #[]] w0 fun e w' => e = .returned (.bool false)∧Below w0.heap.size w0 w') :
   Calls Tryz.prog 158 #[.agg #[.string s0,.string s1,.string s2],.slice (some ⟨blk,0,none⟩) n c] w (Ret w (.tuple #[.agg #[.string s0,.string s1,.string s2],.int .i64 0])):=by
 have H:=Lib.hid h
 clear h
 have hb:=Below.refl w.heap.size w
 go_enter Tryz.func158,Tryz.ntmps158
 go_upto_region 1 with fail
 refine wp_alloc2 (fun w1 a0 a1 hk=>?_)
 replace hb:=hb.trans (hk.mono hb.size)
 clear hk
 obtain ⟨Ad,Ae,Af⟩:=ce3 a0
 obtain ⟨Aa,Ag,Ab,Ah,Ac,Ai⟩:=cf3 a1
 go_wp2_with (go_at_call 105;(with_reducible refine (zK hb (H.out _ hb (R.below hb))).mono ?_);clear hb;rintro e w1 ⟨rfl,hk,hb⟩;replace Ag:=zF hk a1 Ag;replace Ah:=zF hk a1 Ah;replace Ai:=zF hk a1 Ai;replace Ad:=zC hk Ad;replace Ae:=zC hk Ae;replace Af:=zC hk Af;replace Aa:=zC hk Aa;replace Ab:=zC hk Ab;replace Ac:=zC hk Ac;clear hk)
 refine bodyPost_ret (v:=.tuple #[.agg #[.string s0,.string s1,.string s2],.int .i64 0]) (by simp [results,Tryz.results158,go_sem,Aa,Ab,Ac]) rfl ⟨rfl,?_⟩
 repeat' (first | exact hb | refine Below.setCell ?_ (by first | exact Nat.le_refl _ | (dsimp only;omega)) _)
set_option maxRecDepth 512 in
theorem resV (s0 s1 s2 t0 t1 t2:ByteArray) (hm:∀ t,t ∈ [t0,t1,t2]→∃ q:Rat,t=ratB q∧RL q 200) (w:World) (R:EnvR w) :
   Calls Tryz.prog 158 #[.agg #[.string s0,.string s1,.string s2],.slice (some ⟨w.heap.size,0,none⟩) 3 3] (w.alloc (Obj.cells #[Value.string t0,Value.string t1,Value.string t2] 22)) (Ret w (.tuple #[.agg #[.string s0,.string s1,.string s2],.int .i64 0])):=by
 have hba:Below w.heap.size w (w.alloc (Obj.cells #[Value.string t0,Value.string t1,Value.string t2] 22)):=(Below.refl _ _).alloc (Nat.le_refl _) _
 refine (resV_w _ (R.below hba) s0 s1 s2 w.heap.size 3 3 (fun w0 hb R0=>containsLong_w w.heap.size 3 3 [t0,t1,t2] rfl (by decide) w0 R0 hm ?_)).mono fun e w' h=>⟨h.1,hba.trans (h.2.mono hba.size)⟩
 intro j t h
 refine zC hb ?_
 match j,h with
 | 0,h=>injection h with h;subst h;simp [go_sem]
 | 1,h=>injection h with h;subst h;simp [go_sem]
 | 2,h=>injection h with h;subst h;simp [go_sem]
 | j+3,h=>simp at h
theorem resPl_w (w:World) (R:EnvR w) (s0 s1 s2 s3:ByteArray) (blk n c:Nat) (h:∀ w0:World,Below w.heap.size w w0→EnvR w0→Calls Tryz.prog 105 #[.slice (some ⟨blk,0,none⟩) n c,.func (Fn.func 106) #[] #[]] w0 fun e w' => e = .returned (.bool false)∧Below w0.heap.size w0 w') :
   Calls Tryz.prog 93 #[.agg #[.string s0,.string s1,.string s2,.string s3],.slice (some ⟨blk,0,none⟩) n c] w (Ret w (.tuple #[.agg #[.string s0,.string s1,.string s2,.string s3],.int .i64 0])):=by
 have H:=Lib.hid h
 clear h
 have hb:=Below.refl w.heap.size w
 go_enter Tryz.func93,Tryz.ntmps93
 go_upto_region 1 with fail
 refine wp_alloc2 (fun w1 a0 a1 hk=>?_)
 replace hb:=hb.trans (hk.mono hb.size)
 clear hk
 obtain ⟨Ae,Af,Ag,Ah⟩:=ce4 a0
 obtain ⟨Aa,Ai,Ab,Aj,Ac,Ak,Ad,Al⟩:=cf4 a1
 go_wp2_with (go_at_call 105;(with_reducible refine (zK hb (H.out _ hb (R.below hb))).mono ?_);clear hb;rintro e w1 ⟨rfl,hk,hb⟩;replace Ai:=zF hk a1 Ai;replace Aj:=zF hk a1 Aj;replace Ak:=zF hk a1 Ak;replace Al:=zF hk a1 Al;replace Ae:=zC hk Ae;replace Af:=zC hk Af;replace Ag:=zC hk Ag;replace Ah:=zC hk Ah;replace Aa:=zC hk Aa;replace Ab:=zC hk Ab;replace Ac:=zC hk Ac;replace Ad:=zC hk Ad;clear hk)
 refine bodyPost_ret (v:=.tuple #[.agg #[.string s0,.string s1,.string s2,.string s3],.int .i64 0]) (by simp [results,Tryz.results93,go_sem,Aa,Ab,Ac,Ad]) rfl ⟨rfl,?_⟩
 repeat' (first | exact hb | refine Below.setCell ?_ (by first | exact Nat.le_refl _ | (dsimp only;omega)) _)
set_option maxRecDepth 512 in
theorem resPl (s0 s1 s2 s3 t0 t1 t2 t3:ByteArray) (hm:∀ t,t ∈ [t0,t1,t2,t3]→∃ q:Rat,t=ratB q∧RL q 200) (w:World) (R:EnvR w) :
   Calls Tryz.prog 93 #[.agg #[.string s0,.string s1,.string s2,.string s3],.slice (some ⟨w.heap.size,0,none⟩) 4 4] (w.alloc (Obj.cells #[Value.string t0,Value.string t1,Value.string t2,Value.string t3] 22)) (Ret w (.tuple #[.agg #[.string s0,.string s1,.string s2,.string s3],.int .i64 0])):=by
 have hba:Below w.heap.size w (w.alloc (Obj.cells #[Value.string t0,Value.string t1,Value.string t2,Value.string t3] 22)):=(Below.refl _ _).alloc (Nat.le_refl _) _
 refine (resPl_w _ (R.below hba) s0 s1 s2 s3 w.heap.size 4 4 (fun w0 hb R0=>containsLong_w w.heap.size 4 4 [t0,t1,t2,t3] rfl (by decide) w0 R0 hm ?_)).mono fun e w' h=>⟨h.1,hba.trans (h.2.mono hba.size)⟩
 intro j t h
 refine zC hb ?_
 match j,h with
 | 0,h=>injection h with h;subst h;simp [go_sem]
 | 1,h=>injection h with h;subst h;simp [go_sem]
 | 2,h=>injection h with h;subst h;simp [go_sem]
 | 3,h=>injection h with h;subst h;simp [go_sem]
 | j+4,h=>simp at h
theorem vcheck_ok (a b c:Rat) (r1:RL a 200) (r2:RL b 200) (r3:RL c 200) (w:World) (R:EnvR w) :
   Calls Tryz.prog 86 #[.agg #[.string (ratB a),.string (ratB b),.string (ratB c)]] w (Ret w (.int .i64 0)):=by
 have c1:∀ w,EnvR w→Calls Tryz.prog 114 #[.slice (some ⟨w.heap.size,0,none⟩) 3 3] (w.alloc (Obj.cells #[Value.string (ratB a),Value.string (ratB b),Value.string (ratB c)] 22)) (Ret w (.int .i64 0)):=fun w R=>numCheck3 (ratB a) (ratB b) (ratB c) 0 (fun _=>rfl) (fun h=>absurd ⟨isRat_of r1,isRat_of r2,isRat_of r3⟩ h) (Nat.le_trans (size_of_RL r1) (by decide)) (Nat.le_trans (size_of_RL r2) (by decide)) (Nat.le_trans (size_of_RL r3) (by decide)) w R
 have C1:=Lib.hid c1
 clear c1 r1 r2 r3
 have hb:=Below.refl w.heap.size w
 go_enter Tryz.func86,Tryz.ntmps86
 go_upto_region 1 with fail
 refine wp_alloc1 (fun w1 a0 hk=>?_)
 replace hb:=hb.trans (hk.mono hb.size)
 clear hk
 obtain ⟨Aa,Ab,Ac⟩:=ce3 a0
 go_wp2_with (go_at_call 114;with_reducible refine (zL hb (C1.out _ (R.below hb))).mono ?_;clear hb;rintro e w1 ⟨rfl,hk,hb⟩;clear Aa Ab Ac;replace a0:=zB hk a0;obtain ⟨Aa,Ab,Ac⟩:=ce3 a0;clear hk)
 first | go_ret | go_ret2 | go_ret3
 exact ⟨rfl,hb⟩
theorem pcheck_ok (a b:Rat) (r1:RL a 200) (r2:RL b 200) (w:World) (R:EnvR w) :
   Calls Tryz.prog 77 #[.agg #[.string (ratB a),.string (ratB b)]] w (Ret w (.int .i64 0)):=by
 have c1:∀ w,EnvR w→Calls Tryz.prog 114 #[.slice (some ⟨w.heap.size,0,none⟩) 2 2] (w.alloc (Obj.cells #[Value.string (ratB a),Value.string (ratB b)] 22)) (Ret w (.int .i64 0)):=fun w R=>numCheck2 (ratB a) (ratB b) 0 (fun _=>rfl) (fun h=>absurd ⟨isRat_of r1,isRat_of r2⟩ h) (Nat.le_trans (size_of_RL r1) (by decide)) (Nat.le_trans (size_of_RL r2) (by decide)) w R
 have C1:=Lib.hid c1
 clear c1 r1 r2
 have hb:=Below.refl w.heap.size w
 go_enter Tryz.func77,Tryz.ntmps77
 go_upto_region 1 with fail
 refine wp_alloc1 (fun w1 a0 hk=>?_)
 replace hb:=hb.trans (hk.mono hb.size)
 clear hk
 obtain ⟨Aa,Ab⟩:=ce2 a0
 go_wp2_with (go_at_call 114;with_reducible refine (zL hb (C1.out _ (R.below hb))).mono ?_;clear hb;rintro e w1 ⟨rfl,hk,hb⟩;clear Aa Ab;replace a0:=zB hk a0;obtain ⟨Aa,Ab⟩:=ce2 a0;clear hk)
 first | go_ret | go_ret2 | go_ret3
 exact ⟨rfl,hb⟩
theorem result_V (a b c:Rat) (r1:RL a 200) (r2:RL b 200) (r3:RL c 200) (w:World) (R:EnvR w) :
   Calls Tryz.prog 127 #[.agg #[.string (ratB a),.string (ratB b),.string (ratB c)]] w (Ret w (.tuple #[.agg #[.string (ratB a),.string (ratB b),.string (ratB c)],.int .i64 0])):=by
 have c1:∀ w,EnvR w→Calls Tryz.prog 158 #[.agg #[.string (ratB a),.string (ratB b),.string (ratB c)],.slice (some ⟨w.heap.size,0,none⟩) 3 3] (w.alloc (Obj.cells #[Value.string (ratB a),Value.string (ratB b),Value.string (ratB c)] 22)) (Ret w (.tuple #[.agg #[.string (ratB a),.string (ratB b),.string (ratB c)],.int .i64 0])):=fun w R=>resV (ratB a) (ratB b) (ratB c) (ratB a) (ratB b) (ratB c) (by intro t ht;simp only [List.mem_cons,List.not_mem_nil,or_false] at ht;rcases ht with rfl | rfl | rfl;exact ⟨_,rfl,r1⟩;exact ⟨_,rfl,r2⟩;exact ⟨_,rfl,r3⟩) w R
 have C1:=Lib.hid c1
 clear c1 r1 r2 r3
 have hb:=Below.refl w.heap.size w
 go_enter Tryz.func127,Tryz.ntmps127
 go_upto_region 1 with fail
 refine wp_alloc2 (fun w1 a0 a1 hk=>?_)
 replace hb:=hb.trans (hk.mono hb.size)
 clear hk
 obtain ⟨Ad,Ae,Af⟩:=ce3 a0
 obtain ⟨Aa,Ag,Ab,Ah,Ac,Ai⟩:=cf3 a1
 go_wp2_with (go_at_call 158;with_reducible refine (zL hb (C1.out _ (R.below hb))).mono ?_;clear hb;rintro e w1 ⟨rfl,hk,hb⟩;clear Ad Ae Af Aa Ab Ac Ag Ah Ai;replace a0:=zB hk a0;replace a1:=zB hk a1;obtain ⟨Ad,Ae,Af⟩:=ce3 a0;obtain ⟨Aa,Ag,Ab,Ah,Ac,Ai⟩:=cf3 a1;clear hk)
 refine bodyPost_ret (v:=.tuple #[.agg #[.string (ratB a),.string (ratB b),.string (ratB c)],.int .i64 0]) (by simp [results,Tryz.results127,go_sem,Aa,Ab,Ac]) rfl ⟨rfl,?_⟩
 repeat' (first | exact hb | refine Below.setCell ?_ (by first | exact Nat.le_refl _ | (dsimp only;omega)) _)
theorem each_Mul (a b c x y z:Rat) (r1:RL a 10000) (r2:RL x 10000) (r3:RL b 10000) (r4:RL y 10000) (r5:RL c 10000) (r6:RL z 10000) (w:World) (R:EnvR w) :
   Calls Tryz.prog 128 #[.agg #[.string (ratB a),.string (ratB b),.string (ratB c)],.agg #[.string (ratB x),.string (ratB y),.string (ratB z)],.func (Fn.func 23) #[] #[]] w (Ret w (.agg #[.string (ratB (a*x)),.string (ratB (b*y)),.string (ratB (c*z))])):=by
 have c1:=rmul_any a x r1 r2
 have c2:=rmul_any b y r3 r4
 have c3:=rmul_any c z r5 r6
 have C1:=Lib.hid c1
 have C2:=Lib.hid c2
 have C3:=Lib.hid c3
 clear c1 c2 c3 r1 r2 r3 r4 r5 r6
 have hb:=Below.refl w.heap.size w
 go_enter Tryz.func128,Tryz.ntmps128
 go_upto_region 1 with fail
 refine wp_alloc3 (fun w1 a0 a1 a2 hk=>?_)
 replace hb:=hb.trans (hk.mono hb.size)
 clear hk
 obtain ⟨Ad,Ae,Af⟩:=ce3 a0
 obtain ⟨Ag,Ah,Ai⟩:=ce3 a1
 obtain ⟨Aa,Aj,Ab,Ak,Ac,Al⟩:=cf3 a2
 go_upto_region 1 with fail
 obtain ⟨Ap,Aq,Ar⟩:=cy3 a0
 obtain ⟨As,At,Au⟩:=cy3 a1
 obtain ⟨Av,Aw,Ax⟩:=cy3 a2
 have Am:=rrR C1 R hb
 have An:=rrR C2 R hb
 have Ao:=rrR C3 R hb
 refine wp_region_tail_below 19 (by first | assumption | kernel_rfl) (by kernel_rfl) ?_
 simp only [List.take_succ_cons,List.take_zero,List.drop_succ_cons,List.drop_zero]
 repeat (quiet_step (first | (with_reducible exact Am.out _ _) | (with_reducible exact An.out _ _) | (with_reducible exact Ao.out _ _)))
 refine wpQuiet_nil ?_
 intro w1 hw'
 obtain ⟨hk,hb⟩:=zQ hb hw'
 clear Ad Ae Af Ag Ah Ai Aa Ab Ac Aj Ak Al
 replace a0:=zB hk a0
 replace a1:=zB hk a1
 replace a2:=zB hk a2
 obtain ⟨Ad,Ae,Af⟩:=ce3 a0
 obtain ⟨Ag,Ah,Ai⟩:=ce3 a1
 obtain ⟨Aa,Aj,Ab,Ak,Ac,Al⟩:=cf3 a2
 clear Am An Ao Ap Aq Ar As At Au Av Aw Ax
 clear hk hw'
 go_wp2
 refine bodyPost_ret (v:=.agg #[.string (ratB (a*x)),.string (ratB (b*y)),.string (ratB (c*z))]) (by simp [results,Tryz.results128,go_sem,Aa,Ab,Ac]) rfl ⟨rfl,?_⟩
 repeat' (first | exact hb | refine Below.setCell ?_ (by first | exact Nat.le_refl _ | (dsimp only;omega)) _)
structure EnvV (w:World):Prop extends EnvR w where
 z0:w.cell? ⟨0,0,none⟩=some (.string ⟨#[48]⟩)
 z1:w.cell? ⟨0,1,none⟩=some (.string ⟨#[48]⟩)
 z2:w.cell? ⟨0,2,none⟩=some (.string ⟨#[48]⟩)
theorem EnvV.below {w w':World} (h:EnvV w) (hb:Below w.heap.size w w'):EnvV w':=
 ⟨h.toEnvR.below hb,zC hb h.z0,zC hb h.z1,zC hb h.z2⟩
@[reducible] def CV (f : FuncId) (args : Array Value) (v : Value) : Prop := ∀ w, EnvV w → Calls Tryz.prog f args w (Ret w v)
theorem qqV {f:FuncId} {args:Array Value} {v:Value} {w0 w:World} (C:Hid (∀ w,EnvV w→Calls Tryz.prog f args w (Ret w v))) (R:EnvV w0) (hb:Below w0.heap.size w0 w):Hid (∀ d os,Calls Tryz.prog f args (Sort.grow (redrawn w d) os) fun e w' => e = .returned v∧Since (Sort.grow (redrawn w d) os) w'):=Lib.hid (fun d os=>(C.out (Sort.grow (redrawn w d) os) (R.below (hb.trans ((below_regrown w d os).mono hb.size)))).mono (fun _ _ h=>⟨h.1,h.2⟩))
theorem rrV {f:FuncId} {args:Array Value} {v:Value} {w0 w:World} (C:Hid (∀ w,EnvV w→Calls Tryz.prog f args w (Ret w v))) (R:EnvV w0) (hb:Below w0.heap.size w0 w):Hid (∀ d os,Calls Tryz.prog f args (Sort.grow (redrawn w d) os) fun e w'' => e = .returned v∧∃ p:Regrown,w''=Sort.grow (redrawn w p.d) p.os):=Lib.hid (fun d os=>Calls.regrown_of (C.out (Sort.grow (redrawn w d) os) (R.below (hb.trans ((below_regrown w d os).mono hb.size)))))
theorem chVB {f:FuncId} {args:Array Value} {v:Value} {w0 w:World} (hb:Below w0.heap.size w0 w) (R:EnvV w0) (C:Hid (∀ w,EnvV w→Calls Tryz.prog f args w (Ret w v))):Calls Tryz.prog f args w fun e w' => e = .returned v∧Below w.heap.size w w'∧Below w0.heap.size w0 w':=zK hb (C.out _ (R.below hb))
theorem zero_iff (q:Rat):((ratB q).toList=[48])↔q=0:=by
 have:=ratB_eq_zero q
 rw [← beq_iff_eq,this,decide_eq_true_iff]
theorem retBo {x y:Bool} (h:x=y):Ending.returned (.bool x) = .returned (.bool y):=by rw [h]
def primD (x y z:Rat):Nat:=Nat.gcd (Nat.gcd x.num.natAbs y.num.natAbs) z.num.natAbs
def primM (x y z:Rat):Nat:=Nat.lcm (Nat.lcm x.den y.den) z.den
def primF (x y z:Rat):Rat:=Rat.divInt (primM x y z:Int) (primD x y z:Int)
theorem primD_pos (x y z:Rat) (h:x≠0∨y≠0∨z≠0):0 < primD x y z:=by
 have hx:∀ q:Rat,q≠0→0 < q.num.natAbs:=fun q hq=>Int.natAbs_pos.2 (mt Rat.num_eq_zero.1 hq)
 unfold primD
 rcases h with h | h | h
 · exact Nat.gcd_pos_of_pos_left _ (Nat.gcd_pos_of_pos_left _ (hx x h))
 · exact Nat.gcd_pos_of_pos_left _ (Nat.gcd_pos_of_pos_right _ (hx y h))
 · exact Nat.gcd_pos_of_pos_right _ (hx z h)
theorem prim_w0 (a b c nu0 de0 gc0 qu0 re0 dv0 mu0 nu1 de1 gc1 qu1 re1 dv1 mu1 nu2 de2 gc2 qu2 re2 dv2 mu2 fa p0 p1 p2:ByteArray) (_za:(a.toList == [48])=false) (_ya:¬ a.toList=[48]) (hC:CV 86 #[.agg #[.string a,.string b,.string c]] (.int .i64 0)) (hP0:CV 48 #[.string a] (.tuple #[.string nu0,.string de0])) (hG0:CV 100 #[.string ⟨#[48]⟩,.string nu0] (.string dv0)) (hH0:CV 100 #[.string ⟨#[49]⟩,.string de0] (.string gc0)) (hD0:CV 125 #[.string de0,.string gc0] (.tuple #[.string qu0,.string re0,.int .i64 0])) (hM0:CV 101 #[.string ⟨#[49]⟩,.string qu0] (.string mu0)) (hP1:CV 48 #[.string b] (.tuple #[.string nu1,.string de1])) (hG1:CV 100 #[.string dv0,.string nu1] (.string dv1)) (hH1:CV 100 #[.string mu0,.string de1] (.string gc1)) (hD1:CV 125 #[.string de1,.string gc1] (.tuple #[.string qu1,.string re1,.int .i64 0])) (hM1:CV 101 #[.string mu0,.string qu1] (.string mu1)) (hP2:CV 48 #[.string c] (.tuple #[.string nu2,.string de2])) (hG2:CV 100 #[.string dv1,.string nu2] (.string dv2)) (hH2:CV 100 #[.string mu1,.string de2] (.string gc2)) (hD2:CV 125 #[.string de2,.string gc2] (.tuple #[.string qu2,.string re2,.int .i64 0])) (hM2:CV 101 #[.string mu1,.string qu2] (.string mu2)) (hN:CV 126 #[.string mu2,.string dv2] (.tuple #[.string fa,.int .i64 0])) (hE:CV 128 #[.agg #[.string a,.string b,.string c],.agg #[.string fa,.string fa,.string fa],.func (Fn.func 23) #[] #[]] (.agg #[.string p0,.string p1,.string p2])) (hR:CV 127 #[.agg #[.string p0,.string p1,.string p2]] (.tuple #[.agg #[.string p0,.string p1,.string p2],.int .i64 0])) (w:World) (R:EnvV w) :
   Calls Tryz.prog 95 #[.agg #[.string a,.string b,.string c]] w (Ret w (.tuple #[.agg #[.string p0,.string p1,.string p2],.int .i64 0])):=by
 have HC_:=Lib.hid hC
 have HP0_:=Lib.hid hP0
 have HG0_:=Lib.hid hG0
 have HH0_:=Lib.hid hH0
 have HD0_:=Lib.hid hD0
 have HM0_:=Lib.hid hM0
 have HP1_:=Lib.hid hP1
 have HG1_:=Lib.hid hG1
 have HH1_:=Lib.hid hH1
 have HD1_:=Lib.hid hD1
 have HM1_:=Lib.hid hM1
 have HP2_:=Lib.hid hP2
 have HG2_:=Lib.hid hG2
 have HH2_:=Lib.hid hH2
 have HD2_:=Lib.hid hD2
 have HM2_:=Lib.hid hM2
 have HN_:=Lib.hid hN
 have HE_:=Lib.hid hE
 have HR_:=Lib.hid hR
 have hix0:∀ w:World,(Instr.index 153 (.agg #[.string a,.string b,.string c]) (.int .i64 0)).run Tryz.prog w = .ok (.string a) w:=fun w=>by kernel_rfl
 have hix1:∀ w:World,(Instr.index 153 (.agg #[.string a,.string b,.string c]) (.int .i64 1)).run Tryz.prog w = .ok (.string b) w:=fun w=>by kernel_rfl
 have hix2:∀ w:World,(Instr.index 153 (.agg #[.string a,.string b,.string c]) (.int .i64 2)).run Tryz.prog w = .ok (.string c) w:=fun w=>by kernel_rfl
 clear hC hP0 hG0 hH0 hD0 hM0 hP1 hG1 hH1 hD1 hM1 hP2 hG2 hH2 hD2 hM2 hN hE hR
 have hb:=Below.refl w.heap.size w
 have Aj:=R.z0
 have Ak:=R.z1
 have Al:=R.z2
 go_enter Tryz.func95,Tryz.ntmps95
 go_upto_region 1 with fail
 refine wp_alloc2 (fun w1 a0 a1 hk=>?_)
 replace Aj:=zC hk Aj
 replace Ak:=zC hk Ak
 replace Al:=zC hk Al
 replace hb:=hb.trans (hk.mono hb.size)
 clear hk
 obtain ⟨Ad,Ae,Af⟩:=ce3 a0
 obtain ⟨Aa,Ag,Ab,Ah,Ac,Ai⟩:=cf3 a1
 clear a0
 go_upto_region 6 with (go_at_call 86;((with_reducible refine (zK hb (HC_.out _ (R.below hb))).mono ?_);clear hb;rintro e w1 ⟨rfl,hk,hb⟩;replace Ad:=zC hk Ad;replace Ae:=zC hk Ae;replace Af:=zC hk Af;replace Aj:=zC hk Aj;replace Ak:=zC hk Ak;replace Al:=zC hk Al;clear Aa Ab Ac Ag Ah Ai;replace a1:=zB hk a1;obtain ⟨Aa,Ag,Ab,Ah,Ac,Ai⟩:=cf3 a1;clear hk))
 clear Aj Ak Al
 go_upto_region 8 with fail
 have HB:=Lib.hid hb
 have HX:=Lib.hid (And.intro Ad (And.intro Ae Af))
 have HF:=Lib.hid (And.intro Ag (And.intro Ah Ai))
 have HZ:=Lib.hid (And.intro Aa (And.intro Ab Ac))
 have HA:=Lib.hid a1
 have hz:w.heap.size+1 < w1.heap.size:=(Array.getElem?_eq_some_iff.1 a1).1
 clear hb Ad Ae Af Aa Ab Ac Ag Ah Ai a1
 go_loopw [33,5,6] (fun i m d wr=>((i = .int .i64 0∧m = .string ⟨#[49]⟩∧d = .string ⟨#[48]⟩)∨(i = .int .i64 1∧m = .string mu0∧d = .string dv0)∨(i = .int .i64 2∧m = .string mu1∧d = .string dv1)∨(i = .int .i64 3∧m = .string mu2∧d = .string dv2))∧Below w1.heap.size w1 wr) (fun i _ _ _=>3 - (intOf i).toNat)
 case atStart=>exact ⟨Or.inl ⟨rfl,rfl,rfl⟩,Below.refl _ _⟩
 case round =>
   obtain ⟨⟨rfl,rfl,rfl⟩ | ⟨rfl,rfl,rfl⟩ | ⟨rfl,rfl,rfl⟩ | ⟨rfl,rfl,rfl⟩,hw⟩:=hrel
   · have hb:Below w.heap.size w wr:=HB.out.trans (hw.mono HB.out.size)
     go_wp2_with (first | (go_at_call 48;((with_reducible refine (zK hb (HP0_.out _ (R.below hb))).mono ?_);rintro e w2 ⟨rfl,hk,hb2⟩;replace hw:=hw.trans (hk.mono hw.size);replace hb:=hb2;clear hk hb2)) | (go_at_call 100;first | (((with_reducible refine (zK hb (HG0_.out _ (R.below hb))).mono ?_);rintro e w2 ⟨rfl,hk,hb2⟩;replace hw:=hw.trans (hk.mono hw.size);replace hb:=hb2;clear hk hb2)) | (((with_reducible refine (zK hb (HH0_.out _ (R.below hb))).mono ?_);rintro e w2 ⟨rfl,hk,hb2⟩;replace hw:=hw.trans (hk.mono hw.size);replace hb:=hb2;clear hk hb2))) | (go_at_call 125;((with_reducible refine (zK hb (HD0_.out _ (R.below hb))).mono ?_);rintro e w2 ⟨rfl,hk,hb2⟩;replace hw:=hw.trans (hk.mono hw.size);replace hb:=hb2;clear hk hb2)) | (go_at_call 101;((with_reducible refine (zK hb (HM0_.out _ (R.below hb))).mono ?_);rintro e w2 ⟨rfl,hk,hb2⟩;replace hw:=hw.trans (hk.mono hw.size);replace hb:=hb2;clear hk hb2)))
     go_roundw
     case rel=>exact ⟨Or.inr (Or.inl ⟨rfl,rfl,rfl⟩),hw⟩
     case measure=>simp [intOf]
   · have hb:Below w.heap.size w wr:=HB.out.trans (hw.mono HB.out.size)
     go_wp2_with (first | (go_at_call 48;((with_reducible refine (zK hb (HP1_.out _ (R.below hb))).mono ?_);rintro e w2 ⟨rfl,hk,hb2⟩;replace hw:=hw.trans (hk.mono hw.size);replace hb:=hb2;clear hk hb2)) | (go_at_call 100;first | (((with_reducible refine (zK hb (HG1_.out _ (R.below hb))).mono ?_);rintro e w2 ⟨rfl,hk,hb2⟩;replace hw:=hw.trans (hk.mono hw.size);replace hb:=hb2;clear hk hb2)) | (((with_reducible refine (zK hb (HH1_.out _ (R.below hb))).mono ?_);rintro e w2 ⟨rfl,hk,hb2⟩;replace hw:=hw.trans (hk.mono hw.size);replace hb:=hb2;clear hk hb2))) | (go_at_call 125;((with_reducible refine (zK hb (HD1_.out _ (R.below hb))).mono ?_);rintro e w2 ⟨rfl,hk,hb2⟩;replace hw:=hw.trans (hk.mono hw.size);replace hb:=hb2;clear hk hb2)) | (go_at_call 101;((with_reducible refine (zK hb (HM1_.out _ (R.below hb))).mono ?_);rintro e w2 ⟨rfl,hk,hb2⟩;replace hw:=hw.trans (hk.mono hw.size);replace hb:=hb2;clear hk hb2)))
     go_roundw
     case rel=>exact ⟨Or.inr (Or.inr (Or.inl ⟨rfl,rfl,rfl⟩)),hw⟩
     case measure=>simp [intOf]
   · have hb:Below w.heap.size w wr:=HB.out.trans (hw.mono HB.out.size)
     go_wp2_with (first | (go_at_call 48;((with_reducible refine (zK hb (HP2_.out _ (R.below hb))).mono ?_);rintro e w2 ⟨rfl,hk,hb2⟩;replace hw:=hw.trans (hk.mono hw.size);replace hb:=hb2;clear hk hb2)) | (go_at_call 100;first | (((with_reducible refine (zK hb (HG2_.out _ (R.below hb))).mono ?_);rintro e w2 ⟨rfl,hk,hb2⟩;replace hw:=hw.trans (hk.mono hw.size);replace hb:=hb2;clear hk hb2)) | (((with_reducible refine (zK hb (HH2_.out _ (R.below hb))).mono ?_);rintro e w2 ⟨rfl,hk,hb2⟩;replace hw:=hw.trans (hk.mono hw.size);replace hb:=hb2;clear hk hb2))) | (go_at_call 125;((with_reducible refine (zK hb (HD2_.out _ (R.below hb))).mono ?_);rintro e w2 ⟨rfl,hk,hb2⟩;replace hw:=hw.trans (hk.mono hw.size);replace hb:=hb2;clear hk hb2)) | (go_at_call 101;((with_reducible refine (zK hb (HM2_.out _ (R.below hb))).mono ?_);rintro e w2 ⟨rfl,hk,hb2⟩;replace hw:=hw.trans (hk.mono hw.size);replace hb:=hb2;clear hk hb2)))
     go_roundw
     case rel=>exact ⟨Or.inr (Or.inr (Or.inr (⟨rfl,rfl,rfl⟩))),hw⟩
     case measure=>simp [intOf]
   · have hb:Below w.heap.size w wr:=HB.out.trans (hw.mono HB.out.size)
     have Ad:=zC hw HX.out.1
     have Ae:=zC hw HX.out.2.1
     have Af:=zC hw HX.out.2.2
     have a1:=zB hw HA.out
     have Aa:=zC hw HZ.out.1
     have Ab:=zC hw HZ.out.2.1
     have Ac:=zC hw HZ.out.2.2
     have Ag:=zF hw HA.out HF.out.1
     have Ah:=zF hw HA.out HF.out.2.1
     have Ai:=zF hw HA.out HF.out.2.2
     clear hw
     go_wp2_with (first | (go_at_call 126;((with_reducible refine (zK hb (HN_.out _ (R.below hb))).mono ?_);clear hb;rintro e w1 ⟨rfl,hk,hb⟩;replace Ad:=zC hk Ad;replace Ae:=zC hk Ae;replace Af:=zC hk Af;clear Aa Ab Ac Ag Ah Ai;replace a1:=zB hk a1;obtain ⟨Aa,Ag,Ab,Ah,Ac,Ai⟩:=cf3 a1;clear hk)) | (go_at_call 128;((with_reducible refine (zK hb (HE_.out _ (R.below hb))).mono ?_);clear hb;rintro e w1 ⟨rfl,hk,hb⟩;replace Ad:=zC hk Ad;replace Ae:=zC hk Ae;replace Af:=zC hk Af;clear Aa Ab Ac Ag Ah Ai;replace a1:=zB hk a1;obtain ⟨Aa,Ag,Ab,Ah,Ac,Ai⟩:=cf3 a1;clear hk)) | (go_at_call 127;((with_reducible refine (zK hb (HR_.out _ (R.below hb))).mono ?_);clear hb;rintro e w1 ⟨rfl,hk,hb⟩;replace Ad:=zC hk Ad;replace Ae:=zC hk Ae;replace Af:=zC hk Af;clear Aa Ab Ac Ag Ah Ai;replace a1:=zB hk a1;obtain ⟨Aa,Ag,Ab,Ah,Ac,Ai⟩:=cf3 a1;clear hk)))
     refine bodyPost_ret (v:=.tuple #[.agg #[.string p0,.string p1,.string p2],.int .i64 0]) (by simp [results,Tryz.results95,go_sem,Aa,Ab,Ac]) rfl ⟨rfl,?_⟩
     repeat' (first | exact hb | refine Below.setCell ?_ (by first | exact Nat.le_refl _ | (dsimp only;omega)) _)
theorem prim_w1 (a b c nu0 de0 gc0 qu0 re0 dv0 mu0 nu1 de1 gc1 qu1 re1 dv1 mu1 nu2 de2 gc2 qu2 re2 dv2 mu2 fa p0 p1 p2:ByteArray) (_za:(a.toList == [48])=true) (_ya:a.toList=[48]) (_zb:(b.toList == [48])=false) (_yb:¬ b.toList=[48]) (hC:CV 86 #[.agg #[.string a,.string b,.string c]] (.int .i64 0)) (hP0:CV 48 #[.string a] (.tuple #[.string nu0,.string de0])) (hG0:CV 100 #[.string ⟨#[48]⟩,.string nu0] (.string dv0)) (hH0:CV 100 #[.string ⟨#[49]⟩,.string de0] (.string gc0)) (hD0:CV 125 #[.string de0,.string gc0] (.tuple #[.string qu0,.string re0,.int .i64 0])) (hM0:CV 101 #[.string ⟨#[49]⟩,.string qu0] (.string mu0)) (hP1:CV 48 #[.string b] (.tuple #[.string nu1,.string de1])) (hG1:CV 100 #[.string dv0,.string nu1] (.string dv1)) (hH1:CV 100 #[.string mu0,.string de1] (.string gc1)) (hD1:CV 125 #[.string de1,.string gc1] (.tuple #[.string qu1,.string re1,.int .i64 0])) (hM1:CV 101 #[.string mu0,.string qu1] (.string mu1)) (hP2:CV 48 #[.string c] (.tuple #[.string nu2,.string de2])) (hG2:CV 100 #[.string dv1,.string nu2] (.string dv2)) (hH2:CV 100 #[.string mu1,.string de2] (.string gc2)) (hD2:CV 125 #[.string de2,.string gc2] (.tuple #[.string qu2,.string re2,.int .i64 0])) (hM2:CV 101 #[.string mu1,.string qu2] (.string mu2)) (hN:CV 126 #[.string mu2,.string dv2] (.tuple #[.string fa,.int .i64 0])) (hE:CV 128 #[.agg #[.string a,.string b,.string c],.agg #[.string fa,.string fa,.string fa],.func (Fn.func 23) #[] #[]] (.agg #[.string p0,.string p1,.string p2])) (hR:CV 127 #[.agg #[.string p0,.string p1,.string p2]] (.tuple #[.agg #[.string p0,.string p1,.string p2],.int .i64 0])) (w:World) (R:EnvV w) :
   Calls Tryz.prog 95 #[.agg #[.string a,.string b,.string c]] w (Ret w (.tuple #[.agg #[.string p0,.string p1,.string p2],.int .i64 0])):=by
 have HC_:=Lib.hid hC
 have HP0_:=Lib.hid hP0
 have HG0_:=Lib.hid hG0
 have HH0_:=Lib.hid hH0
 have HD0_:=Lib.hid hD0
 have HM0_:=Lib.hid hM0
 have HP1_:=Lib.hid hP1
 have HG1_:=Lib.hid hG1
 have HH1_:=Lib.hid hH1
 have HD1_:=Lib.hid hD1
 have HM1_:=Lib.hid hM1
 have HP2_:=Lib.hid hP2
 have HG2_:=Lib.hid hG2
 have HH2_:=Lib.hid hH2
 have HD2_:=Lib.hid hD2
 have HM2_:=Lib.hid hM2
 have HN_:=Lib.hid hN
 have HE_:=Lib.hid hE
 have HR_:=Lib.hid hR
 have hix0:∀ w:World,(Instr.index 153 (.agg #[.string a,.string b,.string c]) (.int .i64 0)).run Tryz.prog w = .ok (.string a) w:=fun w=>by kernel_rfl
 have hix1:∀ w:World,(Instr.index 153 (.agg #[.string a,.string b,.string c]) (.int .i64 1)).run Tryz.prog w = .ok (.string b) w:=fun w=>by kernel_rfl
 have hix2:∀ w:World,(Instr.index 153 (.agg #[.string a,.string b,.string c]) (.int .i64 2)).run Tryz.prog w = .ok (.string c) w:=fun w=>by kernel_rfl
 clear hC hP0 hG0 hH0 hD0 hM0 hP1 hG1 hH1 hD1 hM1 hP2 hG2 hH2 hD2 hM2 hN hE hR
 have hb:=Below.refl w.heap.size w
 have Aj:=R.z0
 have Ak:=R.z1
 have Al:=R.z2
 go_enter Tryz.func95,Tryz.ntmps95
 go_upto_region 1 with fail
 refine wp_alloc2 (fun w1 a0 a1 hk=>?_)
 replace Aj:=zC hk Aj
 replace Ak:=zC hk Ak
 replace Al:=zC hk Al
 replace hb:=hb.trans (hk.mono hb.size)
 clear hk
 obtain ⟨Ad,Ae,Af⟩:=ce3 a0
 obtain ⟨Aa,Ag,Ab,Ah,Ac,Ai⟩:=cf3 a1
 clear a0
 go_upto_region 6 with (go_at_call 86;((with_reducible refine (zK hb (HC_.out _ (R.below hb))).mono ?_);clear hb;rintro e w1 ⟨rfl,hk,hb⟩;replace Ad:=zC hk Ad;replace Ae:=zC hk Ae;replace Af:=zC hk Af;replace Aj:=zC hk Aj;replace Ak:=zC hk Ak;replace Al:=zC hk Al;clear Aa Ab Ac Ag Ah Ai;replace a1:=zB hk a1;obtain ⟨Aa,Ag,Ab,Ah,Ac,Ai⟩:=cf3 a1;clear hk))
 clear Aj Ak Al
 go_upto_region 8 with fail
 have HB:=Lib.hid hb
 have HX:=Lib.hid (And.intro Ad (And.intro Ae Af))
 have HF:=Lib.hid (And.intro Ag (And.intro Ah Ai))
 have HZ:=Lib.hid (And.intro Aa (And.intro Ab Ac))
 have HA:=Lib.hid a1
 have hz:w.heap.size+1 < w1.heap.size:=(Array.getElem?_eq_some_iff.1 a1).1
 clear hb Ad Ae Af Aa Ab Ac Ag Ah Ai a1
 go_loopw [33,5,6] (fun i m d wr=>((i = .int .i64 0∧m = .string ⟨#[49]⟩∧d = .string ⟨#[48]⟩)∨(i = .int .i64 1∧m = .string mu0∧d = .string dv0)∨(i = .int .i64 2∧m = .string mu1∧d = .string dv1)∨(i = .int .i64 3∧m = .string mu2∧d = .string dv2))∧Below w1.heap.size w1 wr) (fun i _ _ _=>3 - (intOf i).toNat)
 case atStart=>exact ⟨Or.inl ⟨rfl,rfl,rfl⟩,Below.refl _ _⟩
 case round =>
   obtain ⟨⟨rfl,rfl,rfl⟩ | ⟨rfl,rfl,rfl⟩ | ⟨rfl,rfl,rfl⟩ | ⟨rfl,rfl,rfl⟩,hw⟩:=hrel
   · have hb:Below w.heap.size w wr:=HB.out.trans (hw.mono HB.out.size)
     go_wp2_with (first | (go_at_call 48;((with_reducible refine (zK hb (HP0_.out _ (R.below hb))).mono ?_);rintro e w2 ⟨rfl,hk,hb2⟩;replace hw:=hw.trans (hk.mono hw.size);replace hb:=hb2;clear hk hb2)) | (go_at_call 100;first | (((with_reducible refine (zK hb (HG0_.out _ (R.below hb))).mono ?_);rintro e w2 ⟨rfl,hk,hb2⟩;replace hw:=hw.trans (hk.mono hw.size);replace hb:=hb2;clear hk hb2)) | (((with_reducible refine (zK hb (HH0_.out _ (R.below hb))).mono ?_);rintro e w2 ⟨rfl,hk,hb2⟩;replace hw:=hw.trans (hk.mono hw.size);replace hb:=hb2;clear hk hb2))) | (go_at_call 125;((with_reducible refine (zK hb (HD0_.out _ (R.below hb))).mono ?_);rintro e w2 ⟨rfl,hk,hb2⟩;replace hw:=hw.trans (hk.mono hw.size);replace hb:=hb2;clear hk hb2)) | (go_at_call 101;((with_reducible refine (zK hb (HM0_.out _ (R.below hb))).mono ?_);rintro e w2 ⟨rfl,hk,hb2⟩;replace hw:=hw.trans (hk.mono hw.size);replace hb:=hb2;clear hk hb2)))
     go_roundw
     case rel=>exact ⟨Or.inr (Or.inl ⟨rfl,rfl,rfl⟩),hw⟩
     case measure=>simp [intOf]
   · have hb:Below w.heap.size w wr:=HB.out.trans (hw.mono HB.out.size)
     go_wp2_with (first | (go_at_call 48;((with_reducible refine (zK hb (HP1_.out _ (R.below hb))).mono ?_);rintro e w2 ⟨rfl,hk,hb2⟩;replace hw:=hw.trans (hk.mono hw.size);replace hb:=hb2;clear hk hb2)) | (go_at_call 100;first | (((with_reducible refine (zK hb (HG1_.out _ (R.below hb))).mono ?_);rintro e w2 ⟨rfl,hk,hb2⟩;replace hw:=hw.trans (hk.mono hw.size);replace hb:=hb2;clear hk hb2)) | (((with_reducible refine (zK hb (HH1_.out _ (R.below hb))).mono ?_);rintro e w2 ⟨rfl,hk,hb2⟩;replace hw:=hw.trans (hk.mono hw.size);replace hb:=hb2;clear hk hb2))) | (go_at_call 125;((with_reducible refine (zK hb (HD1_.out _ (R.below hb))).mono ?_);rintro e w2 ⟨rfl,hk,hb2⟩;replace hw:=hw.trans (hk.mono hw.size);replace hb:=hb2;clear hk hb2)) | (go_at_call 101;((with_reducible refine (zK hb (HM1_.out _ (R.below hb))).mono ?_);rintro e w2 ⟨rfl,hk,hb2⟩;replace hw:=hw.trans (hk.mono hw.size);replace hb:=hb2;clear hk hb2)))
     go_roundw
     case rel=>exact ⟨Or.inr (Or.inr (Or.inl ⟨rfl,rfl,rfl⟩)),hw⟩
     case measure=>simp [intOf]
   · have hb:Below w.heap.size w wr:=HB.out.trans (hw.mono HB.out.size)
     go_wp2_with (first | (go_at_call 48;((with_reducible refine (zK hb (HP2_.out _ (R.below hb))).mono ?_);rintro e w2 ⟨rfl,hk,hb2⟩;replace hw:=hw.trans (hk.mono hw.size);replace hb:=hb2;clear hk hb2)) | (go_at_call 100;first | (((with_reducible refine (zK hb (HG2_.out _ (R.below hb))).mono ?_);rintro e w2 ⟨rfl,hk,hb2⟩;replace hw:=hw.trans (hk.mono hw.size);replace hb:=hb2;clear hk hb2)) | (((with_reducible refine (zK hb (HH2_.out _ (R.below hb))).mono ?_);rintro e w2 ⟨rfl,hk,hb2⟩;replace hw:=hw.trans (hk.mono hw.size);replace hb:=hb2;clear hk hb2))) | (go_at_call 125;((with_reducible refine (zK hb (HD2_.out _ (R.below hb))).mono ?_);rintro e w2 ⟨rfl,hk,hb2⟩;replace hw:=hw.trans (hk.mono hw.size);replace hb:=hb2;clear hk hb2)) | (go_at_call 101;((with_reducible refine (zK hb (HM2_.out _ (R.below hb))).mono ?_);rintro e w2 ⟨rfl,hk,hb2⟩;replace hw:=hw.trans (hk.mono hw.size);replace hb:=hb2;clear hk hb2)))
     go_roundw
     case rel=>exact ⟨Or.inr (Or.inr (Or.inr (⟨rfl,rfl,rfl⟩))),hw⟩
     case measure=>simp [intOf]
   · have hb:Below w.heap.size w wr:=HB.out.trans (hw.mono HB.out.size)
     have Ad:=zC hw HX.out.1
     have Ae:=zC hw HX.out.2.1
     have Af:=zC hw HX.out.2.2
     have a1:=zB hw HA.out
     have Aa:=zC hw HZ.out.1
     have Ab:=zC hw HZ.out.2.1
     have Ac:=zC hw HZ.out.2.2
     have Ag:=zF hw HA.out HF.out.1
     have Ah:=zF hw HA.out HF.out.2.1
     have Ai:=zF hw HA.out HF.out.2.2
     clear hw
     go_wp2_with (first | (go_at_call 126;((with_reducible refine (zK hb (HN_.out _ (R.below hb))).mono ?_);clear hb;rintro e w1 ⟨rfl,hk,hb⟩;replace Ad:=zC hk Ad;replace Ae:=zC hk Ae;replace Af:=zC hk Af;clear Aa Ab Ac Ag Ah Ai;replace a1:=zB hk a1;obtain ⟨Aa,Ag,Ab,Ah,Ac,Ai⟩:=cf3 a1;clear hk)) | (go_at_call 128;((with_reducible refine (zK hb (HE_.out _ (R.below hb))).mono ?_);clear hb;rintro e w1 ⟨rfl,hk,hb⟩;replace Ad:=zC hk Ad;replace Ae:=zC hk Ae;replace Af:=zC hk Af;clear Aa Ab Ac Ag Ah Ai;replace a1:=zB hk a1;obtain ⟨Aa,Ag,Ab,Ah,Ac,Ai⟩:=cf3 a1;clear hk)) | (go_at_call 127;((with_reducible refine (zK hb (HR_.out _ (R.below hb))).mono ?_);clear hb;rintro e w1 ⟨rfl,hk,hb⟩;replace Ad:=zC hk Ad;replace Ae:=zC hk Ae;replace Af:=zC hk Af;clear Aa Ab Ac Ag Ah Ai;replace a1:=zB hk a1;obtain ⟨Aa,Ag,Ab,Ah,Ac,Ai⟩:=cf3 a1;clear hk)))
     refine bodyPost_ret (v:=.tuple #[.agg #[.string p0,.string p1,.string p2],.int .i64 0]) (by simp [results,Tryz.results95,go_sem,Aa,Ab,Ac]) rfl ⟨rfl,?_⟩
     repeat' (first | exact hb | refine Below.setCell ?_ (by first | exact Nat.le_refl _ | (dsimp only;omega)) _)
theorem prim_w2 (a b c nu0 de0 gc0 qu0 re0 dv0 mu0 nu1 de1 gc1 qu1 re1 dv1 mu1 nu2 de2 gc2 qu2 re2 dv2 mu2 fa p0 p1 p2:ByteArray) (_za:(a.toList == [48])=true) (_ya:a.toList=[48]) (_zb:(b.toList == [48])=true) (_yb:b.toList=[48]) (_zc:(c.toList == [48])=false) (_yc:¬ c.toList=[48]) (hC:CV 86 #[.agg #[.string a,.string b,.string c]] (.int .i64 0)) (hP0:CV 48 #[.string a] (.tuple #[.string nu0,.string de0])) (hG0:CV 100 #[.string ⟨#[48]⟩,.string nu0] (.string dv0)) (hH0:CV 100 #[.string ⟨#[49]⟩,.string de0] (.string gc0)) (hD0:CV 125 #[.string de0,.string gc0] (.tuple #[.string qu0,.string re0,.int .i64 0])) (hM0:CV 101 #[.string ⟨#[49]⟩,.string qu0] (.string mu0)) (hP1:CV 48 #[.string b] (.tuple #[.string nu1,.string de1])) (hG1:CV 100 #[.string dv0,.string nu1] (.string dv1)) (hH1:CV 100 #[.string mu0,.string de1] (.string gc1)) (hD1:CV 125 #[.string de1,.string gc1] (.tuple #[.string qu1,.string re1,.int .i64 0])) (hM1:CV 101 #[.string mu0,.string qu1] (.string mu1)) (hP2:CV 48 #[.string c] (.tuple #[.string nu2,.string de2])) (hG2:CV 100 #[.string dv1,.string nu2] (.string dv2)) (hH2:CV 100 #[.string mu1,.string de2] (.string gc2)) (hD2:CV 125 #[.string de2,.string gc2] (.tuple #[.string qu2,.string re2,.int .i64 0])) (hM2:CV 101 #[.string mu1,.string qu2] (.string mu2)) (hN:CV 126 #[.string mu2,.string dv2] (.tuple #[.string fa,.int .i64 0])) (hE:CV 128 #[.agg #[.string a,.string b,.string c],.agg #[.string fa,.string fa,.string fa],.func (Fn.func 23) #[] #[]] (.agg #[.string p0,.string p1,.string p2])) (hR:CV 127 #[.agg #[.string p0,.string p1,.string p2]] (.tuple #[.agg #[.string p0,.string p1,.string p2],.int .i64 0])) (w:World) (R:EnvV w) :
   Calls Tryz.prog 95 #[.agg #[.string a,.string b,.string c]] w (Ret w (.tuple #[.agg #[.string p0,.string p1,.string p2],.int .i64 0])):=by
 have HC_:=Lib.hid hC
 have HP0_:=Lib.hid hP0
 have HG0_:=Lib.hid hG0
 have HH0_:=Lib.hid hH0
 have HD0_:=Lib.hid hD0
 have HM0_:=Lib.hid hM0
 have HP1_:=Lib.hid hP1
 have HG1_:=Lib.hid hG1
 have HH1_:=Lib.hid hH1
 have HD1_:=Lib.hid hD1
 have HM1_:=Lib.hid hM1
 have HP2_:=Lib.hid hP2
 have HG2_:=Lib.hid hG2
 have HH2_:=Lib.hid hH2
 have HD2_:=Lib.hid hD2
 have HM2_:=Lib.hid hM2
 have HN_:=Lib.hid hN
 have HE_:=Lib.hid hE
 have HR_:=Lib.hid hR
 have hix0:∀ w:World,(Instr.index 153 (.agg #[.string a,.string b,.string c]) (.int .i64 0)).run Tryz.prog w = .ok (.string a) w:=fun w=>by kernel_rfl
 have hix1:∀ w:World,(Instr.index 153 (.agg #[.string a,.string b,.string c]) (.int .i64 1)).run Tryz.prog w = .ok (.string b) w:=fun w=>by kernel_rfl
 have hix2:∀ w:World,(Instr.index 153 (.agg #[.string a,.string b,.string c]) (.int .i64 2)).run Tryz.prog w = .ok (.string c) w:=fun w=>by kernel_rfl
 clear hC hP0 hG0 hH0 hD0 hM0 hP1 hG1 hH1 hD1 hM1 hP2 hG2 hH2 hD2 hM2 hN hE hR
 have hb:=Below.refl w.heap.size w
 have Aj:=R.z0
 have Ak:=R.z1
 have Al:=R.z2
 go_enter Tryz.func95,Tryz.ntmps95
 go_upto_region 1 with fail
 refine wp_alloc2 (fun w1 a0 a1 hk=>?_)
 replace Aj:=zC hk Aj
 replace Ak:=zC hk Ak
 replace Al:=zC hk Al
 replace hb:=hb.trans (hk.mono hb.size)
 clear hk
 obtain ⟨Ad,Ae,Af⟩:=ce3 a0
 obtain ⟨Aa,Ag,Ab,Ah,Ac,Ai⟩:=cf3 a1
 clear a0
 go_upto_region 6 with (go_at_call 86;((with_reducible refine (zK hb (HC_.out _ (R.below hb))).mono ?_);clear hb;rintro e w1 ⟨rfl,hk,hb⟩;replace Ad:=zC hk Ad;replace Ae:=zC hk Ae;replace Af:=zC hk Af;replace Aj:=zC hk Aj;replace Ak:=zC hk Ak;replace Al:=zC hk Al;clear Aa Ab Ac Ag Ah Ai;replace a1:=zB hk a1;obtain ⟨Aa,Ag,Ab,Ah,Ac,Ai⟩:=cf3 a1;clear hk))
 clear Aj Ak Al
 go_upto_region 8 with fail
 have HB:=Lib.hid hb
 have HX:=Lib.hid (And.intro Ad (And.intro Ae Af))
 have HF:=Lib.hid (And.intro Ag (And.intro Ah Ai))
 have HZ:=Lib.hid (And.intro Aa (And.intro Ab Ac))
 have HA:=Lib.hid a1
 have hz:w.heap.size+1 < w1.heap.size:=(Array.getElem?_eq_some_iff.1 a1).1
 clear hb Ad Ae Af Aa Ab Ac Ag Ah Ai a1
 go_loopw [33,5,6] (fun i m d wr=>((i = .int .i64 0∧m = .string ⟨#[49]⟩∧d = .string ⟨#[48]⟩)∨(i = .int .i64 1∧m = .string mu0∧d = .string dv0)∨(i = .int .i64 2∧m = .string mu1∧d = .string dv1)∨(i = .int .i64 3∧m = .string mu2∧d = .string dv2))∧Below w1.heap.size w1 wr) (fun i _ _ _=>3 - (intOf i).toNat)
 case atStart=>exact ⟨Or.inl ⟨rfl,rfl,rfl⟩,Below.refl _ _⟩
 case round =>
   obtain ⟨⟨rfl,rfl,rfl⟩ | ⟨rfl,rfl,rfl⟩ | ⟨rfl,rfl,rfl⟩ | ⟨rfl,rfl,rfl⟩,hw⟩:=hrel
   · have hb:Below w.heap.size w wr:=HB.out.trans (hw.mono HB.out.size)
     go_wp2_with (first | (go_at_call 48;((with_reducible refine (zK hb (HP0_.out _ (R.below hb))).mono ?_);rintro e w2 ⟨rfl,hk,hb2⟩;replace hw:=hw.trans (hk.mono hw.size);replace hb:=hb2;clear hk hb2)) | (go_at_call 100;first | (((with_reducible refine (zK hb (HG0_.out _ (R.below hb))).mono ?_);rintro e w2 ⟨rfl,hk,hb2⟩;replace hw:=hw.trans (hk.mono hw.size);replace hb:=hb2;clear hk hb2)) | (((with_reducible refine (zK hb (HH0_.out _ (R.below hb))).mono ?_);rintro e w2 ⟨rfl,hk,hb2⟩;replace hw:=hw.trans (hk.mono hw.size);replace hb:=hb2;clear hk hb2))) | (go_at_call 125;((with_reducible refine (zK hb (HD0_.out _ (R.below hb))).mono ?_);rintro e w2 ⟨rfl,hk,hb2⟩;replace hw:=hw.trans (hk.mono hw.size);replace hb:=hb2;clear hk hb2)) | (go_at_call 101;((with_reducible refine (zK hb (HM0_.out _ (R.below hb))).mono ?_);rintro e w2 ⟨rfl,hk,hb2⟩;replace hw:=hw.trans (hk.mono hw.size);replace hb:=hb2;clear hk hb2)))
     go_roundw
     case rel=>exact ⟨Or.inr (Or.inl ⟨rfl,rfl,rfl⟩),hw⟩
     case measure=>simp [intOf]
   · have hb:Below w.heap.size w wr:=HB.out.trans (hw.mono HB.out.size)
     go_wp2_with (first | (go_at_call 48;((with_reducible refine (zK hb (HP1_.out _ (R.below hb))).mono ?_);rintro e w2 ⟨rfl,hk,hb2⟩;replace hw:=hw.trans (hk.mono hw.size);replace hb:=hb2;clear hk hb2)) | (go_at_call 100;first | (((with_reducible refine (zK hb (HG1_.out _ (R.below hb))).mono ?_);rintro e w2 ⟨rfl,hk,hb2⟩;replace hw:=hw.trans (hk.mono hw.size);replace hb:=hb2;clear hk hb2)) | (((with_reducible refine (zK hb (HH1_.out _ (R.below hb))).mono ?_);rintro e w2 ⟨rfl,hk,hb2⟩;replace hw:=hw.trans (hk.mono hw.size);replace hb:=hb2;clear hk hb2))) | (go_at_call 125;((with_reducible refine (zK hb (HD1_.out _ (R.below hb))).mono ?_);rintro e w2 ⟨rfl,hk,hb2⟩;replace hw:=hw.trans (hk.mono hw.size);replace hb:=hb2;clear hk hb2)) | (go_at_call 101;((with_reducible refine (zK hb (HM1_.out _ (R.below hb))).mono ?_);rintro e w2 ⟨rfl,hk,hb2⟩;replace hw:=hw.trans (hk.mono hw.size);replace hb:=hb2;clear hk hb2)))
     go_roundw
     case rel=>exact ⟨Or.inr (Or.inr (Or.inl ⟨rfl,rfl,rfl⟩)),hw⟩
     case measure=>simp [intOf]
   · have hb:Below w.heap.size w wr:=HB.out.trans (hw.mono HB.out.size)
     go_wp2_with (first | (go_at_call 48;((with_reducible refine (zK hb (HP2_.out _ (R.below hb))).mono ?_);rintro e w2 ⟨rfl,hk,hb2⟩;replace hw:=hw.trans (hk.mono hw.size);replace hb:=hb2;clear hk hb2)) | (go_at_call 100;first | (((with_reducible refine (zK hb (HG2_.out _ (R.below hb))).mono ?_);rintro e w2 ⟨rfl,hk,hb2⟩;replace hw:=hw.trans (hk.mono hw.size);replace hb:=hb2;clear hk hb2)) | (((with_reducible refine (zK hb (HH2_.out _ (R.below hb))).mono ?_);rintro e w2 ⟨rfl,hk,hb2⟩;replace hw:=hw.trans (hk.mono hw.size);replace hb:=hb2;clear hk hb2))) | (go_at_call 125;((with_reducible refine (zK hb (HD2_.out _ (R.below hb))).mono ?_);rintro e w2 ⟨rfl,hk,hb2⟩;replace hw:=hw.trans (hk.mono hw.size);replace hb:=hb2;clear hk hb2)) | (go_at_call 101;((with_reducible refine (zK hb (HM2_.out _ (R.below hb))).mono ?_);rintro e w2 ⟨rfl,hk,hb2⟩;replace hw:=hw.trans (hk.mono hw.size);replace hb:=hb2;clear hk hb2)))
     go_roundw
     case rel=>exact ⟨Or.inr (Or.inr (Or.inr (⟨rfl,rfl,rfl⟩))),hw⟩
     case measure=>simp [intOf]
   · have hb:Below w.heap.size w wr:=HB.out.trans (hw.mono HB.out.size)
     have Ad:=zC hw HX.out.1
     have Ae:=zC hw HX.out.2.1
     have Af:=zC hw HX.out.2.2
     have a1:=zB hw HA.out
     have Aa:=zC hw HZ.out.1
     have Ab:=zC hw HZ.out.2.1
     have Ac:=zC hw HZ.out.2.2
     have Ag:=zF hw HA.out HF.out.1
     have Ah:=zF hw HA.out HF.out.2.1
     have Ai:=zF hw HA.out HF.out.2.2
     clear hw
     go_wp2_with (first | (go_at_call 126;((with_reducible refine (zK hb (HN_.out _ (R.below hb))).mono ?_);clear hb;rintro e w1 ⟨rfl,hk,hb⟩;replace Ad:=zC hk Ad;replace Ae:=zC hk Ae;replace Af:=zC hk Af;clear Aa Ab Ac Ag Ah Ai;replace a1:=zB hk a1;obtain ⟨Aa,Ag,Ab,Ah,Ac,Ai⟩:=cf3 a1;clear hk)) | (go_at_call 128;((with_reducible refine (zK hb (HE_.out _ (R.below hb))).mono ?_);clear hb;rintro e w1 ⟨rfl,hk,hb⟩;replace Ad:=zC hk Ad;replace Ae:=zC hk Ae;replace Af:=zC hk Af;clear Aa Ab Ac Ag Ah Ai;replace a1:=zB hk a1;obtain ⟨Aa,Ag,Ab,Ah,Ac,Ai⟩:=cf3 a1;clear hk)) | (go_at_call 127;((with_reducible refine (zK hb (HR_.out _ (R.below hb))).mono ?_);clear hb;rintro e w1 ⟨rfl,hk,hb⟩;replace Ad:=zC hk Ad;replace Ae:=zC hk Ae;replace Af:=zC hk Af;clear Aa Ab Ac Ag Ah Ai;replace a1:=zB hk a1;obtain ⟨Aa,Ag,Ab,Ah,Ac,Ai⟩:=cf3 a1;clear hk)))
     refine bodyPost_ret (v:=.tuple #[.agg #[.string p0,.string p1,.string p2],.int .i64 0]) (by simp [results,Tryz.results95,go_sem,Aa,Ab,Ac]) rfl ⟨rfl,?_⟩
     repeat' (first | exact hb | refine Below.setCell ?_ (by first | exact Nat.le_refl _ | (dsimp only;omega)) _)
theorem RN.up {q:Rat} {n d N D:Nat} (h:RN q n d) (h1:n≤N) (h2:d≤D):RN q N D:=⟨Nat.le_trans h.1 h1,Nat.le_trans h.2 h2⟩
theorem gcd_small (a b N:Nat) (ha:a < N) (hb:b < N):Nat.gcd a b < N:=by
 by_cases h:a=0
 · subst h;rw [Nat.gcd_zero_left];exact hb
 · exact Nat.lt_of_le_of_lt (Nat.gcd_le_left _ (by omega)) ha
theorem dlen_gcd2 (a b K:Nat) (hK:0 < K) (ha:dlen (a:Int)≤K) (hb:dlen (b:Int)≤K):dlen ((Nat.gcd a b:Nat):Int)≤K:=
 dlen_le _ K hK (gcd_small a b _ (by have:=dlen_lt _ K ha;rwa [Int.natAbs_natCast] at this) (by have:=dlen_lt _ K hb;rwa [Int.natAbs_natCast] at this))
theorem dlen_lcm (a b K M:Nat) (_hK:0 < K) (ha0:0 < a) (hb0:0 < b) (ha:dlen (a:Int)≤K) (hb:dlen (b:Int)≤M):dlen ((Nat.lcm a b:Nat):Int)≤K+M:=by
 have h1:=dlen_mul (a:Int) (b:Int) K M (by omega) ha hb
 have h2:Nat.lcm a b≤a*b:=Nat.le_of_dvd (Nat.mul_pos ha0 hb0) (Nat.lcm_dvd (Nat.dvd_mul_right ..) (Nat.dvd_mul_left ..))
 have h3:=dlen_lt _ _ h1
 rw [← Int.natCast_mul,Int.natAbs_natCast] at h3
 exact dlen_le _ _ (by omega) (by rw [Int.natAbs_natCast];omega)
theorem dlen_abs (n:Int):dlen (n.natAbs:Int)=dlen n:=by unfold dlen;rw [Int.natAbs_natCast]
theorem RN_prim {a b c:Rat} {n d:Nat} (nz:a≠0∨b≠0∨c≠0) (hn:0 < n) (hd:0 < d) (ha:RN a n d) (hb:RN b n d) (hc:RN c n d):RN (primF a b c) (d+d+d) n:=by
 have h1:=primD_pos a b c nz
 refine RN_mk _ _ _ _ (by omega) hn (by omega) ?_ ?_
 · exact dlen_lcm _ _ _ _ (by omega) (Nat.lcm_pos a.den_pos b.den_pos) c.den_pos (dlen_lcm _ _ _ _ hd a.den_pos b.den_pos ha.2 hb.2) hc.2
 · exact dlen_gcd2 _ _ _ hn (dlen_gcd2 _ _ _ hn (by rw [dlen_abs];exact ha.1) (by rw [dlen_abs];exact hb.1)) (by rw [dlen_abs];exact hc.1)
theorem lcm_step (m d:Nat):(m:Int)*((d / Nat.gcd m d:Nat):Int)=((Nat.lcm m d:Nat):Int):=by
 rw [← Int.natCast_mul]
 congr 1
 unfold Nat.lcm
 exact (Nat.mul_div_assoc _ (Nat.gcd_dvd_right ..)).symm
theorem i_gcd (x y:Nat) (hx:dlen (x:Int)≤40000) (hy:dlen (y:Int)≤40000) (w:World) (E:Env w) :
   Calls Tryz.prog 100 #[.string (itoaB (x:Int)),.string (itoaB (y:Int))] w (Ret w (.string (itoaB ((Nat.gcd x y:Nat):Int)))):=by
 have:=gcd_any (x:Int) (y:Int) w E hx hy
 rwa [Int.natAbs_natCast,Int.natAbs_natCast] at this
theorem i_gcdn (x:Nat) (y:Int) (hx:dlen (x:Int)≤40000) (hy:dlen y≤40000) (w:World) (E:Env w) :
   Calls Tryz.prog 100 #[.string (itoaB (x:Int)),.string (itoaB y)] w (Ret w (.string (itoaB ((Nat.gcd x y.natAbs:Nat):Int)))):=by
 have:=gcd_any (x:Int) y w E hx hy
 rwa [Int.natAbs_natCast] at this
theorem i_div (d g:Nat) (_hg:0 < g) (hd:dlen (d:Int)≤40000) (hgl:dlen (g:Int)≤40000) (w:World) (E:Env w) :
   Calls Tryz.prog 125 #[.string (itoaB (d:Int)),.string (itoaB (g:Int))] w (Ret w (.tuple #[.string (itoaB ((d / g:Nat):Int)),.string (itoaB ((d:Int) % (g:Int))),.int .i64 0])):=by
 have:=divMod_any (d:Int) (g:Int) w E hd hgl (by omega)
 rwa [← Int.natCast_ediv] at this
theorem i_mul (m d:Nat) (hm:dlen (m:Int)≤40000) (hd:dlen ((d / Nat.gcd m d:Nat):Int)≤40000) (w:World) (E:Env w) :
   Calls Tryz.prog 101 #[.string (itoaB (m:Int)),.string (itoaB ((d / Nat.gcd m d:Nat):Int))] w (Ret w (.string (itoaB ((Nat.lcm m d:Nat):Int)))):=by
 have:=mul_any (m:Int) ((d / Nat.gcd m d:Nat):Int) w E hm hd
 rwa [lcm_step] at this
theorem dlen_quot (d g K:Nat) (hK:0 < K) (hd:dlen (d:Int)≤K):dlen ((d / g:Nat):Int)≤K:=
 dlen_le _ K hK (by have:=dlen_lt _ K hd;rw [Int.natAbs_natCast] at this ⊢;exact Nat.lt_of_le_of_lt (Nat.div_le_self ..) this)
theorem it_0 : itoaB ((0:Nat):Int)=⟨#[48]⟩:=by decide +kernel
theorem it_1 : itoaB ((1:Nat):Int)=⟨#[49]⟩:=by decide +kernel
theorem prim_any (a b c:Rat) (nz:a≠0∨b≠0∨c≠0) (ra:RL a 200) (rb:RL b 200) (rc:RL c 200) (s1:RL (a*primF a b c) 200) (s2:RL (b*primF a b c) 200) (s3:RL (c*primF a b c) 200) (w:World) (R:EnvV w) :
   Calls Tryz.prog 95 #[.agg #[.string (ratB a),.string (ratB b),.string (ratB c)]] w (Ret w (.tuple #[.agg #[.string (ratB (a*primF a b c)),.string (ratB (b*primF a b c)),.string (ratB (c*primF a b c))],.int .i64 0])):=by
 have nF:RN (primF a b c) 600 200:=RN_prim nz (by decide) (by decide) ra rb rc
 have rF:RL (primF a b c) 10000:=nF.rl
 have kd:∀ n:Nat,dlen (n:Int)≤200→dlen (n:Int)≤40000:=fun n h=>Nat.le_trans h (by decide)
 have ga:dlen ((Nat.gcd 0 a.num.natAbs:Nat):Int)≤200:=dlen_gcd2 _ _ _ (by decide) (by decide +kernel) (by rw [dlen_abs];exact ra.1)
 have gb:dlen ((Nat.gcd (Nat.gcd 0 a.num.natAbs) b.num.natAbs:Nat):Int)≤200:=dlen_gcd2 _ _ _ (by decide) ga (by rw [dlen_abs];exact rb.1)
 have l1:dlen ((Nat.lcm 1 a.den:Nat):Int)≤1+200:=dlen_lcm _ _ _ _ (by decide) (by decide) a.den_pos (by decide +kernel) ra.2
 have p1:0 < Nat.lcm 1 a.den:=Nat.lcm_pos (by decide) a.den_pos
 have l2:dlen ((Nat.lcm (Nat.lcm 1 a.den) b.den:Nat):Int)≤1+200+200:=dlen_lcm _ _ _ _ (by decide) p1 b.den_pos l1 rb.2
 have p2:0 < Nat.lcm (Nat.lcm 1 a.den) b.den:=Nat.lcm_pos p1 b.den_pos
 have l3:dlen ((Nat.lcm (Nat.lcm (Nat.lcm 1 a.den) b.den) c.den:Nat):Int)≤1+200+200+200:=dlen_lcm _ _ _ _ (by decide) p2 c.den_pos l2 rc.2
 have gp:∀ m d:Nat,0 < d→0 < Nat.gcd m d:=fun m d h=>Nat.gcd_pos_of_pos_right _ h
 have gl:∀ m d:Nat,0 < d→dlen (d:Int)≤200→dlen ((Nat.gcd m d:Nat):Int)≤40000:=fun m d h0 h=>by
   have h2:=dlen_lt _ _ h
   rw [Int.natAbs_natCast] at h2
   exact Nat.le_trans (dlen_le _ 200 (by decide) (by rw [Int.natAbs_natCast];exact Nat.lt_of_le_of_lt (Nat.gcd_le_right _ h0) h2)) (by decide)
 have ql:∀ m d:Nat,dlen (d:Int)≤200→dlen ((d / Nat.gcd m d:Nat):Int)≤40000:=fun m d h=>Nat.le_trans (dlen_quot d _ 200 (by decide) h) (by decide)
 have eD:Nat.gcd (Nat.gcd (Nat.gcd 0 a.num.natAbs) b.num.natAbs) c.num.natAbs=primD a b c:=by rw [Nat.gcd_zero_left];rfl
 have eM:Nat.lcm (Nat.lcm (Nat.lcm 1 a.den) b.den) c.den=primM a b c:=by rw [Nat.lcm_one_left];rfl
 have hG0:CV 100 #[.string ⟨#[48]⟩,.string (itoaB a.num)] (.string (itoaB ((Nat.gcd 0 a.num.natAbs:Nat):Int))):=fun w R=>by
   have h:=i_gcdn 0 a.num (by decide +kernel) (Nat.le_trans ra.1 (by decide)) w R.env
   rwa [it_0] at h
 have hH0:CV 100 #[.string ⟨#[49]⟩,.string (itoaB (a.den:Int))] (.string (itoaB ((Nat.gcd 1 a.den:Nat):Int))):=fun w R=>by
   have h:=i_gcd 1 a.den (by decide +kernel) (kd _ ra.2) w R.env
   rwa [it_1] at h
 have hM0:CV 101 #[.string ⟨#[49]⟩,.string (itoaB ((a.den / Nat.gcd 1 a.den:Nat):Int))] (.string (itoaB ((Nat.lcm 1 a.den:Nat):Int))):=fun w R=>by
   have h:=i_mul 1 a.den (by decide +kernel) (ql _ _ ra.2) w R.env
   rwa [it_1] at h
 have hN:CV 126 #[.string (itoaB ((Nat.lcm (Nat.lcm (Nat.lcm 1 a.den) b.den) c.den:Nat):Int)),.string (itoaB ((Nat.gcd (Nat.gcd (Nat.gcd 0 a.num.natAbs) b.num.natAbs) c.num.natAbs:Nat):Int))] (.tuple #[.string (ratB (primF a b c)),.int .i64 0]):=fun w R=>by
   have h:=rnew_any (primM a b c:Int) (primD a b c:Int) w R.toEnvR (by rw [← eM];exact Nat.le_trans l3 (by decide)) (Nat.le_trans (dlen_gcd2 _ _ 200 (by decide) (dlen_gcd2 _ _ 200 (by decide) (by rw [dlen_abs];exact ra.1) (by rw [dlen_abs];exact rb.1)) (by rw [dlen_abs];exact rc.1)) (by decide)) (by have:=primD_pos a b c nz;omega)
   rw [eM,eD];exact h
 by_cases z0:a=0
 · by_cases z1:b=0
   · have z2:c≠0:=fun h=>nz.elim (fun k=>k z0) (fun k=>k.elim (fun k=>k z1) (fun k=>k h))
     exact prim_w2 _ _ _ _ _ _ _ _ _ _ _ _ _ _ _ _ _ _ _ _ _ _ _ _ _ _ _ _ ((ratB_eq_zero a).trans (decide_eq_true z0)) ((zero_iff _).2 z0) ((ratB_eq_zero b).trans (decide_eq_true z1)) ((zero_iff _).2 z1) ((ratB_eq_zero c).trans (decide_eq_false z2)) (fun h=>z2 ((zero_iff _).1 h)) (fun w R=>vcheck_ok a b c (RN.rl (K:=200) ra) (RN.rl (K:=200) rb) (RN.rl (K:=200) rc) w R.toEnvR) (fun w R=>rparts_any a w R.toEnvR (ra.mono (by decide))) hG0 hH0 (fun w R=>i_div a.den _ (gp _ _ a.den_pos) (kd _ ra.2) (gl _ _ a.den_pos ra.2) w R.env) hM0 (fun w R=>rparts_any b w R.toEnvR (rb.mono (by decide))) (fun w R=>i_gcdn _ b.num (kd _ ga) (Nat.le_trans rb.1 (by decide)) w R.env) (fun w R=>i_gcd _ b.den (Nat.le_trans l1 (by decide)) (kd _ rb.2) w R.env) (fun w R=>i_div b.den _ (gp _ _ b.den_pos) (kd _ rb.2) (gl _ _ b.den_pos rb.2) w R.env) (fun w R=>i_mul _ b.den (Nat.le_trans l1 (by decide)) (ql _ _ rb.2) w R.env) (fun w R=>rparts_any c w R.toEnvR (rc.mono (by decide))) (fun w R=>i_gcdn _ c.num (kd _ gb) (Nat.le_trans rc.1 (by decide)) w R.env) (fun w R=>i_gcd _ c.den (Nat.le_trans l2 (by decide)) (kd _ rc.2) w R.env) (fun w R=>i_div c.den _ (gp _ _ c.den_pos) (kd _ rc.2) (gl _ _ c.den_pos rc.2) w R.env) (fun w R=>i_mul _ c.den (Nat.le_trans l2 (by decide)) (ql _ _ rc.2) w R.env) hN (fun w R=>each_Mul a b c (primF a b c) (primF a b c) (primF a b c) (RN.rl (K:=10000) ra) (RN.rl (K:=10000) nF) (RN.rl (K:=10000) rb) (RN.rl (K:=10000) nF) (RN.rl (K:=10000) rc) (RN.rl (K:=10000) nF) w R.toEnvR) (fun w R=>result_V (a*primF a b c) (b*primF a b c) (c*primF a b c) (RN.rl (K:=200) s1) (RN.rl (K:=200) s2) (RN.rl (K:=200) s3) w R.toEnvR) w R
   · exact prim_w1 _ _ _ _ _ _ _ _ _ _ _ _ _ _ _ _ _ _ _ _ _ _ _ _ _ _ _ _ ((ratB_eq_zero a).trans (decide_eq_true z0)) ((zero_iff _).2 z0) ((ratB_eq_zero b).trans (decide_eq_false z1)) (fun h=>z1 ((zero_iff _).1 h)) (fun w R=>vcheck_ok a b c (RN.rl (K:=200) ra) (RN.rl (K:=200) rb) (RN.rl (K:=200) rc) w R.toEnvR) (fun w R=>rparts_any a w R.toEnvR (ra.mono (by decide))) hG0 hH0 (fun w R=>i_div a.den _ (gp _ _ a.den_pos) (kd _ ra.2) (gl _ _ a.den_pos ra.2) w R.env) hM0 (fun w R=>rparts_any b w R.toEnvR (rb.mono (by decide))) (fun w R=>i_gcdn _ b.num (kd _ ga) (Nat.le_trans rb.1 (by decide)) w R.env) (fun w R=>i_gcd _ b.den (Nat.le_trans l1 (by decide)) (kd _ rb.2) w R.env) (fun w R=>i_div b.den _ (gp _ _ b.den_pos) (kd _ rb.2) (gl _ _ b.den_pos rb.2) w R.env) (fun w R=>i_mul _ b.den (Nat.le_trans l1 (by decide)) (ql _ _ rb.2) w R.env) (fun w R=>rparts_any c w R.toEnvR (rc.mono (by decide))) (fun w R=>i_gcdn _ c.num (kd _ gb) (Nat.le_trans rc.1 (by decide)) w R.env) (fun w R=>i_gcd _ c.den (Nat.le_trans l2 (by decide)) (kd _ rc.2) w R.env) (fun w R=>i_div c.den _ (gp _ _ c.den_pos) (kd _ rc.2) (gl _ _ c.den_pos rc.2) w R.env) (fun w R=>i_mul _ c.den (Nat.le_trans l2 (by decide)) (ql _ _ rc.2) w R.env) hN (fun w R=>each_Mul a b c (primF a b c) (primF a b c) (primF a b c) (RN.rl (K:=10000) ra) (RN.rl (K:=10000) nF) (RN.rl (K:=10000) rb) (RN.rl (K:=10000) nF) (RN.rl (K:=10000) rc) (RN.rl (K:=10000) nF) w R.toEnvR) (fun w R=>result_V (a*primF a b c) (b*primF a b c) (c*primF a b c) (RN.rl (K:=200) s1) (RN.rl (K:=200) s2) (RN.rl (K:=200) s3) w R.toEnvR) w R
 · exact prim_w0 _ _ _ _ _ _ _ _ _ _ _ _ _ _ _ _ _ _ _ _ _ _ _ _ _ _ _ _ ((ratB_eq_zero a).trans (decide_eq_false z0)) (fun h=>z0 ((zero_iff _).1 h)) (fun w R=>vcheck_ok a b c (RN.rl (K:=200) ra) (RN.rl (K:=200) rb) (RN.rl (K:=200) rc) w R.toEnvR) (fun w R=>rparts_any a w R.toEnvR (ra.mono (by decide))) hG0 hH0 (fun w R=>i_div a.den _ (gp _ _ a.den_pos) (kd _ ra.2) (gl _ _ a.den_pos ra.2) w R.env) hM0 (fun w R=>rparts_any b w R.toEnvR (rb.mono (by decide))) (fun w R=>i_gcdn _ b.num (kd _ ga) (Nat.le_trans rb.1 (by decide)) w R.env) (fun w R=>i_gcd _ b.den (Nat.le_trans l1 (by decide)) (kd _ rb.2) w R.env) (fun w R=>i_div b.den _ (gp _ _ b.den_pos) (kd _ rb.2) (gl _ _ b.den_pos rb.2) w R.env) (fun w R=>i_mul _ b.den (Nat.le_trans l1 (by decide)) (ql _ _ rb.2) w R.env) (fun w R=>rparts_any c w R.toEnvR (rc.mono (by decide))) (fun w R=>i_gcdn _ c.num (kd _ gb) (Nat.le_trans rc.1 (by decide)) w R.env) (fun w R=>i_gcd _ c.den (Nat.le_trans l2 (by decide)) (kd _ rc.2) w R.env) (fun w R=>i_div c.den _ (gp _ _ c.den_pos) (kd _ rc.2) (gl _ _ c.den_pos rc.2) w R.env) (fun w R=>i_mul _ c.den (Nat.le_trans l2 (by decide)) (ql _ _ rc.2) w R.env) hN (fun w R=>each_Mul a b c (primF a b c) (primF a b c) (primF a b c) (RN.rl (K:=10000) ra) (RN.rl (K:=10000) nF) (RN.rl (K:=10000) rb) (RN.rl (K:=10000) nF) (RN.rl (K:=10000) rc) (RN.rl (K:=10000) nF) w R.toEnvR) (fun w R=>result_V (a*primF a b c) (b*primF a b c) (c*primF a b c) (RN.rl (K:=200) s1) (RN.rl (K:=200) s2) (RN.rl (K:=200) s3) w R.toEnvR) w R
end Go.Proofs.YtejfiegmdllfbaaGreatDoor.Kl
