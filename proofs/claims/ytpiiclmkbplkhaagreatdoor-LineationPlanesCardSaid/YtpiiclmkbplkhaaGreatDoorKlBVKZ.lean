import Derived.Test.YtpiiclmkbplkhaaGreatDoorKlBFreeZ
import Derived.Test.YtpiiclmkbplkhaaGreatDoorKlBRatEZ
namespace Go.Proofs.YtpiiclmkbplkhaaGreatDoor.Kl
open Go Go.Sort Go.RowKit
set_option maxRecDepth 100000
set_option maxHeartbeats 8000000
theorem zB {w w':World} {k:Nat} {o:Obj} (hk:Below w.heap.size w w') (h:w.heap[k]? = some o):w'.heap[k]? = some o:=by
 rw [hk.block k (Array.getElem?_eq_some_iff.1 h).1];exact h
theorem zF {w w':World} {k i:Nat} {o:Obj} (hk:Below w.heap.size w w') (h:w.heap[k]? = some o) (f:w.frozen? ⟨k,i,none⟩=false):w'.frozen? ⟨k,i,none⟩=false:=by
 rw [hk.frozen (p:=⟨k,i,none⟩) (Array.getElem?_eq_some_iff.1 h).1];exact f
theorem zK {P:Program} {K:FuncId} {args:Array Value} {w w0:World} {v:Value} (hb:Below w0.heap.size w0 w)
   (h:Calls P K args w fun e w' => e = .returned v∧Below w.heap.size w w'):Calls P K args w fun e w' => e = .returned v∧Below w.heap.size w w'∧Below w0.heap.size w0 w':=
 h.mono fun _ _ ⟨a,b⟩=>⟨a,b,hb.trans (b.mono hb.size)⟩
theorem chRB {f:FuncId} {args:Array Value} {v:Value} {w0 w:World} (hb:Below w0.heap.size w0 w) (R:EnvR w0) (C:Hid (∀ w,EnvR w→Calls Tryz.prog f args w (Ret w v))):Calls Tryz.prog f args w fun e w' => e = .returned v∧Below w.heap.size w w'∧Below w0.heap.size w0 w':=zK hb (C.out _ (R.below hb))
theorem zL {P:Program} {K:FuncId} {args:Array Value} {w wa w0:World} {v:Value} (hb:Below w0.heap.size w0 w)
   (h:Calls P K args wa fun e w' => e = .returned v∧Below w.heap.size w w'):Calls P K args wa fun e w' => e = .returned v∧Below w.heap.size w w'∧Below w0.heap.size w0 w':=
 h.mono fun _ _ ⟨he,hb2⟩=>⟨he,hb2,hb.trans (hb2.mono hb.size)⟩
theorem laid1 (w:World) (o0:Obj):(w.alloc o0).heap[w.heap.size]? = some o0∧Below w.heap.size w (w.alloc o0):=⟨World.alloc_heap_new w o0,(Below.refl _ _).alloc (Nat.le_refl _) _⟩
theorem calls_alloc1 {P:Program} {K:FuncId} {args:Array Value} {Q:Ending→World→Prop} {w:World} {o0:Obj} (h:∀ wq:World,wq.heap[w.heap.size]? = some o0→Below w.heap.size w wq→Calls P K args wq Q):Calls P K args (w.alloc o0) Q:=
 h _ (laid1 w o0).1 (laid1 w o0).2
theorem wp_alloc1 {P:Program} {c:Code} {Q:Exit→Act→World→Prop} {a:Act} {w:World} {o0:Obj} (h:∀ wq:World,wq.heap[w.heap.size]? = some o0→Below w.heap.size w wq→c.wp P Q a wq):c.wp P Q a (w.alloc o0):=
 h _ (laid1 w o0).1 (laid1 w o0).2
theorem laid2 (w:World) (o0 o1:Obj):((w.alloc o0).alloc o1).heap[w.heap.size]? = some o0∧((w.alloc o0).alloc o1).heap[w.heap.size+1]? = some o1∧Below w.heap.size w ((w.alloc o0).alloc o1):=by
 have hz:(w.alloc o0).heap.size=w.heap.size+1:=by simp only [World.size_alloc]
 obtain ⟨a0,hb⟩:=laid1 w o0
 have an:=World.alloc_heap_new (w.alloc o0) o1
 rw [hz] at an
 exact ⟨(Below.heap_alloc _ _ _ (by rw [hz];omega)).trans a0,an,hb.alloc hb.size _⟩
theorem wp_alloc2 {P:Program} {c:Code} {Q:Exit→Act→World→Prop} {a:Act} {w:World} {o0 o1:Obj} (h:∀ wq:World,wq.heap[w.heap.size]? = some o0→wq.heap[w.heap.size+1]? = some o1→Below w.heap.size w wq→c.wp P Q a wq):c.wp P Q a ((w.alloc o0).alloc o1):=
 h _ (laid2 w o0 o1).1 (laid2 w o0 o1).2.1 (laid2 w o0 o1).2.2
theorem laid3 (w:World) (o0 o1 o2:Obj):(((w.alloc o0).alloc o1).alloc o2).heap[w.heap.size]? = some o0∧(((w.alloc o0).alloc o1).alloc o2).heap[w.heap.size+1]? = some o1∧(((w.alloc o0).alloc o1).alloc o2).heap[w.heap.size+2]? = some o2∧Below w.heap.size w (((w.alloc o0).alloc o1).alloc o2):=by
 have hz:((w.alloc o0).alloc o1).heap.size=w.heap.size+2:=by simp only [World.size_alloc]
 obtain ⟨a0,a1,hb⟩:=laid2 w o0 o1
 have an:=World.alloc_heap_new ((w.alloc o0).alloc o1) o2
 rw [hz] at an
 exact ⟨(Below.heap_alloc _ _ _ (by rw [hz];omega)).trans a0,(Below.heap_alloc _ _ _ (by rw [hz];omega)).trans a1,an,hb.alloc hb.size _⟩
theorem wp_alloc3 {P:Program} {c:Code} {Q:Exit→Act→World→Prop} {a:Act} {w:World} {o0 o1 o2:Obj} (h:∀ wq:World,wq.heap[w.heap.size]? = some o0→wq.heap[w.heap.size+1]? = some o1→wq.heap[w.heap.size+2]? = some o2→Below w.heap.size w wq→c.wp P Q a wq):c.wp P Q a (((w.alloc o0).alloc o1).alloc o2):=
 h _ (laid3 w o0 o1 o2).1 (laid3 w o0 o1 o2).2.1 (laid3 w o0 o1 o2).2.2.1 (laid3 w o0 o1 o2).2.2.2
end Go.Proofs.YtpiiclmkbplkhaaGreatDoor.Kl
namespace Go.Proofs.YtpiiclmkbplkhaaGreatDoor.Kl
open Go Go.RowKit
set_option maxRecDepth 100000
set_option maxHeartbeats 8000000
def RN (q:Rat) (n d:Nat):Prop:=dlen q.num≤n∧dlen (q.den:Int)≤d
theorem RN.rl {q:Rat} {n d K:Nat} (h:RN q n d) (h1:n≤K:=by decide) (h2:d≤K:=by decide):RL q K:=⟨Nat.le_trans h.1 h1,Nat.le_trans h.2 h2⟩
theorem RN.r2 {q:Rat} {n d:Nat} (h:RN q n d) (h1:n≤200:=by decide) (h2:d≤200:=by decide):RL q 200:=⟨Nat.le_trans h.1 h1,Nat.le_trans h.2 h2⟩
theorem RN.r4 {q:Rat} {n d:Nat} (h:RN q n d) (h1:n≤400:=by decide) (h2:d≤400:=by decide):RL q 400:=⟨Nat.le_trans h.1 h1,Nat.le_trans h.2 h2⟩
theorem RN.rm {q:Rat} {n d:Nat} (h:RN q n d) (h1:n≤10000:=by decide) (h2:d≤10000:=by decide):RL q 10000:=⟨Nat.le_trans h.1 h1,Nat.le_trans h.2 h2⟩
theorem RN_mk (a b:Int) (n d:Nat) (hn:0 < n) (hd:0 < d) (hb:0 < b) (h1:dlen a≤n) (h2:dlen b≤d):RN (Rat.divInt a b) n d:=by
 obtain ⟨e1,e2⟩:=mk_parts a b hb
 exact ⟨by rw [e1];exact dlen_div _ _ _ hn h1 (gcd_dvd1 ..),by rw [e2];exact dlen_div _ _ _ hd h2 (gcd_dvd2 ..)⟩
theorem RN_mul {p q:Rat} {n d m e:Nat} (hp:RN p n d) (hq:RN q m e) (hn:0 < n+m:=by decide) (hd:0 < d+e:=by decide):RN (p*q) (n+m) (d+e):=by
 rw [← mul_mk]
 have:=Nat.mul_pos p.den_pos q.den_pos
 exact RN_mk _ _ _ _ hn hd (by omega) (dlen_mul _ _ _ _ hn hp.1 hq.1) (by rw [Int.natCast_mul];exact dlen_mul _ _ _ _ hd hp.2 hq.2)
theorem RN_add {p q:Rat} {n d m e N:Nat} (hp:RN p n d) (hq:RN q m e) (hN:0 < N:=by decide) (hd:0 < d+e:=by decide) (h1:n+e≤N:=by decide) (h2:m+d≤N:=by decide):RN (p+q) (N+1) (d+e):=by
 rw [← add_mk]
 have h3:=Nat.mul_pos p.den_pos q.den_pos
 have h4:=dlen_pos p.num
 have h5:=hp.1
 have h6:=dlen_pos q.num
 have h7:=hq.1
 refine RN_mk _ _ _ _ (by omega) hd (by omega) (dlen_add _ _ _ hN (Nat.le_trans (dlen_mul _ _ _ _ (by omega) hp.1 hq.2) h1) (Nat.le_trans (dlen_mul _ _ _ _ (by omega) hq.1 hp.2) h2)) (by rw [Int.natCast_mul];exact dlen_mul _ _ _ _ hd hp.2 hq.2)
theorem RN_neg {q:Rat} {n d:Nat} (h:RN q n d):RN (-q) n d:=⟨by show dlen (-q.num)≤n;rw [dlen_neg];exact h.1,h.2⟩
theorem RN_sub {p q:Rat} {n d m e N:Nat} (hp:RN p n d) (hq:RN q m e) (hN:0 < N:=by decide) (hd:0 < d+e:=by decide) (h1:n+e≤N:=by decide) (h2:m+d≤N:=by decide):RN (p - q) (N+1) (d+e):=by
 rw [Rat.sub_eq_add_neg];exact RN_add hp (RN_neg hq) hN hd h1 h2
theorem RN_inv {q:Rat} {n d:Nat} (h:RN q n d) (h0:q≠0):RN q⁻¹ d n:=by
 have hz:q.num≠0:=mt Rat.num_eq_zero.1 h0
 refine ⟨?_,?_⟩
 · rw [Rat.num_inv]
   have:(q.num.sign*(q.den:Int)).natAbs=(q.den:Int).natAbs:=by
     rw [Int.natAbs_mul,Int.natAbs_sign_of_ne_zero hz,Nat.one_mul]
   have h2:=h.2
   unfold dlen at h2 ⊢;rw [this];exact h2
 · rw [Rat.den_inv,if_neg hz]
   have h1:=h.1
   unfold dlen at h1 ⊢;rwa [Int.natAbs_natCast]
theorem RN_div {p q:Rat} {n d m e:Nat} (hp:RN p n d) (hq:RN q m e) (h0:q≠0) (hn:0 < n+e:=by decide) (hd:0 < d+m:=by decide):RN (p / q) (n+e) (d+m):=by
 rw [Rat.div_def];exact RN_mul hp (RN_inv hq h0) hn hd
theorem rn_0 : RN (0:Rat) 1 1:=by unfold RN;decide +kernel
theorem rn_m1 : RN (-1:Rat) 1 1:=by unfold RN;decide +kernel
theorem rb_0 : ratB (0:Rat)=⟨#[48]⟩:=ratB_zero
theorem rb_m1 : ratB (-1:Rat)=⟨#[45,49]⟩:=by decide +kernel
theorem isRat_of {q:Rat} (h:RL q 200):IsRat (ratB q).data.toList:=⟨q,rfl,h⟩
def firstNZ : List Int→Int
 | [] => 0
 | x :: r=>if x=0 then firstNZ r else x
theorem firstNZ_zero : ∀ (l:List Int),(∀ x,x ∈ l→x=0)→firstNZ l=0
 | [],_=>rfl
 | x :: r,h=>by
   unfold firstNZ
   rw [if_pos (h x (List.mem_cons_self ..))]
   exact firstNZ_zero r (fun y hy=>h y (List.mem_cons_of_mem _ hy))
theorem firstNZ_at : ∀ (l:List Int) (k:Nat) (x:Int),(∀ y,y ∈ l.take k→y=0)→l[k]? = some x→x≠0→firstNZ l=x
 | [],_,_,_,h,_=>by simp at h
 | y :: r,0,x,_,h,hne=>by
   have e:y=x:=by simpa using h
   unfold firstNZ
   rw [if_neg (by rw [e];exact hne),e]
 | y :: r,k+1,x,h0,h,hne=>by
   unfold firstNZ
   rw [if_pos (h0 y (by simp))]
   exact firstNZ_at r k x (fun z hz=>h0 z (by rw [List.take_succ_cons];exact List.mem_cons_of_mem _ hz)) (by simpa using h) hne
theorem numCheck_w (blk n c:Nat) (ts:List ByteArray) (hn:ts.length=n) (_hnb:n≤10) (v:Int) (hv0:(∀ t,t ∈ ts→IsRat t.data.toList)→v=0) (hv2:(∃ t,t ∈ ts∧¬ IsRat t.data.toList)→v=2) (w:World) (R:EnvR w)
   (hm:∀ t,t ∈ ts→t.size≤100000) (hc:∀ (j:Nat) (t:ByteArray),ts[j]? = some t→w.cell? ⟨blk,j,none⟩=some (.string t)) :
   Calls Tryz.prog 110 #[.slice (some ⟨blk,0,none⟩) n c] w (Ret w (.int .i64 v)):=by
 have HC:=Lib.hid hc
 have HM:=Lib.hid hm
 have H0:=Lib.hid hv0
 have H2:=Lib.hid hv2
 have HN:=Lib.hid hn
 clear hc hm hv0 hv2 hn
 go_enter Tryz.func110,Tryz.ntmps110
 go_wp2
 go_loopw [8] (fun i wr=>∃ k:Nat,k≤n∧i = .int .i64 k∧(∀ t,t ∈ ts.take k→IsRat t.data.toList)∧Below w.heap.size w wr) (fun i _=>n - (intOf i).toNat)
 case atStart=>exact ⟨0,Nat.zero_le _,rfl,by simp,Below.refl _ _⟩
 case round =>
   obtain ⟨k,hk,rfl,hall,hb⟩:=hrel
   have HA:=Lib.hid hall
   clear hall
   by_cases hlt:k < n
   · obtain ⟨t,ht⟩:∃ t,ts[k]? = some t:=⟨_,List.getElem?_eq_getElem (by rw [HN.out];exact hlt)⟩
     have x0:wr.cell? ⟨blk,k,none⟩=some (.string t):=zC hb (HC.out k t ht)
     have hmem:t ∈ ts:=List.mem_of_getElem? ht
     have hms:=HM.out t hmem
     have HMEM:=Lib.hid hmem
     have htk:∀ u,u ∈ ts.take (k+1)→u ∈ ts.take k∨u=t:=by
       intro u hu
       rw [List.take_add_one,ht] at hu
       rcases List.mem_append.1 hu with h | h
       · exact Or.inl h
       · exact Or.inr (by simpa using h)
     have HT:=Lib.hid htk
     clear hmem htk ht
     by_cases hi:IsRat t.data.toList
     · have CR:=Lib.hid (fun (w:World) (R:EnvR w)=>rcheck_any t 0 (.inl ⟨hi,rfl⟩) hms w R)
       have HF:Hid (IsRat t.data.toList):=Lib.hid hi
       clear hi
       go_wp2_with (go_at_call 41;with_reducible refine (chRB hb R CR).mono ?_;clear hb;rintro e w1 ⟨rfl,hk2,hb⟩;clear hk2)
       go_roundw
       case rel=>exact ⟨k+1,by omega,by go_num,fun u hu=>(HT.out u hu).elim (HA.out u) (fun e=>e ▸ HF.out),hb⟩
       case measure=>simp [intOf];omega
     · have CR:=Lib.hid (fun (w:World) (R:EnvR w)=>rcheck_any t 2 (.inr ⟨hi,rfl⟩) hms w R)
       have hf:v=2:=H2.out ⟨t,HMEM.out,hi⟩
       clear hi
       go_wp2_with (go_at_call 41;with_reducible refine (chRB hb R CR).mono ?_;clear hb;rintro e w1 ⟨rfl,hk2,hb⟩;clear hk2)
       go_ret
       exact ⟨retI hf.symm,hb⟩
   · have ek:k=n:=by omega
     have ht:v=0:=H0.out (fun t ht=>HA.out t (by rw [List.take_of_length_le (by rw [HN.out];omega)];exact ht))
     go_wp2
     go_ret
     exact ⟨retI ht.symm,hb⟩
set_option maxRecDepth 512 in
theorem numCheck3 (a b c:ByteArray) (v:Int) (hv0:(IsRat a.data.toList∧IsRat b.data.toList∧IsRat c.data.toList)→v=0) (hv2:¬ (IsRat a.data.toList∧IsRat b.data.toList∧IsRat c.data.toList)→v=2) (za:a.size≤100000) (zb:b.size≤100000) (zc:c.size≤100000) (w:World) (R:EnvR w) :
   Calls Tryz.prog 110 #[.slice (some ⟨w.heap.size,0,none⟩) 3 3] (w.alloc (Obj.cells #[Value.string a,Value.string b,Value.string c] 22)) (Ret w (.int .i64 v)):=by
 have hba:Below w.heap.size w (w.alloc (Obj.cells #[Value.string a,Value.string b,Value.string c] 22)):=(Below.refl _ _).alloc (Nat.le_refl _) _
 refine (numCheck_w w.heap.size 3 3 [a,b,c] rfl (by decide) v (fun h=>hv0 (by simpa using h)) (fun ⟨t,h1,h2⟩=>hv2 (fun h=>h2 ?_)) _ (R.below hba) (by simp;exact ⟨za,zb,zc⟩) ?_).mono fun e w' h=>⟨h.1,hba.trans (h.2.mono hba.size)⟩
 · simp only [List.mem_cons,List.not_mem_nil,or_false] at h1
   rcases h1 with rfl | rfl | rfl
   · exact h.1
   · exact h.2.1
   · exact h.2.2
 intro j t h
 match j,h with
 | 0,h=>injection h with h;subst h;simp [go_sem]
 | 1,h=>injection h with h;subst h;simp [go_sem]
 | 2,h=>injection h with h;subst h;simp [go_sem]
 | j+3,h=>simp at h
theorem orErr_w (blk n c:Nat) (ts:List Int) (hn:ts.length=n) (_hnb:n≤20) (v:Int) (hv:firstNZ ts=v) (w:World) (hc:∀ (j:Nat) (t:Int),ts[j]? = some t→w.cell? ⟨blk,j,none⟩=some (.int .i64 t)) :
   Calls Tryz.prog 43 #[.slice (some ⟨blk,0,none⟩) n c] w (Ret w (.int .i64 v)):=by
 have HC:=Lib.hid hc
 have HV:=Lib.hid hv
 have HN:=Lib.hid hn
 clear hc hv hn
 go_enter Tryz.func43,Tryz.ntmps43
 go_wp2
 go_loopw [8] (fun i wr=>∃ k:Nat,k≤n∧i = .int .i64 k∧(∀ t,t ∈ ts.take k→t=0)∧Below w.heap.size w wr) (fun i _=>n - (intOf i).toNat)
 case atStart=>exact ⟨0,Nat.zero_le _,rfl,by simp,Below.refl _ _⟩
 case round =>
   obtain ⟨k,hk,rfl,hall,hb⟩:=hrel
   have HA:=Lib.hid hall
   clear hall
   by_cases hlt:k < n
   · obtain ⟨t,ht⟩:∃ t,ts[k]? = some t:=⟨_,List.getElem?_eq_getElem (by rw [HN.out];exact hlt)⟩
     have x0:wr.cell? ⟨blk,k,none⟩=some (.int .i64 t):=zC hb (HC.out k t ht)
     have HT:=Lib.hid ht
     clear ht
     by_cases hz:t=0
     · have HF:=Lib.hid hz
       go_wp2
       go_roundw
       case rel =>
         refine ⟨k+1,by omega,by go_num,fun u hu=>?_,hb⟩
         rw [List.take_add_one,HT.out] at hu
         rcases List.mem_append.1 hu with h | h
         · exact HA.out u h
         · have:u=t:=by simpa using h
           rw [this];exact HF.out
       case measure=>simp [intOf];omega
     · have HF2:t=v:=(firstNZ_at ts k t HA.out HT.out hz).symm.trans HV.out
       have HG:=Lib.hid HF2
       clear HF2
       go_wp2
       go_ret
       exact ⟨retI HG.out,hb⟩
   · have ek:k=n:=by omega
     have HG:Hid (0=v):=Lib.hid (by rw [← HV.out];symm;exact firstNZ_zero ts (fun t ht=>HA.out t (by rw [List.take_of_length_le (by rw [HN.out];omega)];exact ht)))
     go_wp2
     go_ret
     exact ⟨retI HG.out,hb⟩
set_option maxRecDepth 512 in
theorem orErr2 (a0 a1:Int) (v:Int) (hv:firstNZ [a0,a1]=v) (w:World) (_R:EnvR w) :
   Calls Tryz.prog 43 #[.slice (some ⟨w.heap.size,0,none⟩) 2 2] (w.alloc (Obj.cells #[Value.int .i64 a0,Value.int .i64 a1] 27)) (Ret w (.int .i64 v)):=by
 have hba:Below w.heap.size w (w.alloc (Obj.cells #[Value.int .i64 a0,Value.int .i64 a1] 27)):=(Below.refl _ _).alloc (Nat.le_refl _) _
 refine (orErr_w w.heap.size 2 2 [a0,a1] rfl (by decide) v hv _ ?_).mono fun e w' h=>⟨h.1,hba.trans (h.2.mono hba.size)⟩
 intro j t h
 match j,h with
 | 0,h=>injection h with h;subst h;simp [go_sem]
 | 1,h=>injection h with h;subst h;simp [go_sem]
 | j+2,h=>simp at h
theorem trimP_itoa (n:Int) (w:World):Calls Tryz.prog 128 #[.string (itoaB n),.string ⟨#[45]⟩] w (Ret w (.string (itoaB n.natAbs))):=
 (trimPrefix_call _ _ w).mono fun e w' h=>⟨h.1.trans (by
   show Ending.returned (.string ⟨(Lib.trimPrefix (Lib.itoa n) [45]).toArray⟩)=_
   rw [trimPrefix_minus,mag_itoa]
   unfold itoaB strOf
   rw [itoa_nat _ (by omega),Int.toNat_natCast]),by rw [← h.2];exact Below.refl _ _⟩
theorem natB_size (n:Nat):(itoaB (n:Int)).size=dlen n:=by
 unfold itoaB;rw [strOf_size,itoa_len,if_neg (by omega)];omega
theorem isLong_short (s:ByteArray) (h:s.size≤200) (w:World) (_R:EnvR w) :
   Calls Tryz.prog 117 #[.string s] w (Ret w (.bool false)):=by
 have hb:=Below.refl w.heap.size w
 go_enter Tryz.func117,Tryz.ntmps117
 go_wp2
 go_ret
 exact ⟨rfl,hb⟩
theorem isLong_long (q:Rat) (hq:RL q 200) (h:200 < (ratB q).size) (w:World) (R:EnvR w) :
   Calls Tryz.prog 117 #[.string (ratB q)] w (Ret w (.bool false)):=by
 have c1:=fun (w:World) (R:EnvR w)=>rparts_any q w R (hq.mono (by decide))
 have c2:=fun (w:World) (R:EnvR w)=>trimP_itoa q.num w
 have hsz:200 < (ratB q).size:=h
 have hn:(itoaB (q.num.natAbs:Int)).size≤200:=by rw [natB_size];have:=hq.1;unfold dlen at this ⊢;simpa using this
 have hd:(itoaB (q.den:Int)).size≤200:=by rw [natB_size];exact hq.2
 obtain ⟨n,en⟩:∃ v,itoaB q.num=v:=⟨_,rfl⟩
 try simp only [en] at c1 c2 hsz hn hd ⊢
 obtain ⟨m,em⟩:∃ v,itoaB (q.num.natAbs:Int)=v:=⟨_,rfl⟩
 try simp only [em] at c1 c2 hsz hn hd ⊢
 obtain ⟨d,ed⟩:∃ v,itoaB (q.den:Int)=v:=⟨_,rfl⟩
 try simp only [ed] at c1 c2 hsz hn hd ⊢
 obtain ⟨s,es⟩:∃ v,ratB q=v:=⟨_,rfl⟩
 try simp only [es] at c1 c2 hsz hn hd ⊢
 have C1:=Lib.hid c1
 have C2:=Lib.hid c2
 clear c1 c2 en em ed es hq h
 have hb:=Below.refl w.heap.size w
 go_enter Tryz.func117,Tryz.ntmps117
 go_wp2_with ((first | (go_at_call 68;with_reducible refine (chRA hb R C1).mono ?_) | (go_at_call 128;with_reducible refine (chRA hb R C2).mono ?_));clear hb;rintro e w1 ⟨rfl,hb⟩)
 go_ret
 exact ⟨retB (decide_eq_false (by omega)),hb⟩
theorem isLong_any (q:Rat) (hq:RL q 200) (w:World) (R:EnvR w) :
   Calls Tryz.prog 117 #[.string (ratB q)] w (Ret w (.bool false)):=by
 by_cases h:(ratB q).size≤200
 · exact isLong_short _ h w R
 · exact isLong_long q hq (by omega) w R
theorem indexLong_w (blk n c:Nat) (ts:List ByteArray) (hn:ts.length=n) (hnb:n≤20) (w:World) (R:EnvR w)
   (hm:∀ t,t ∈ ts→∃ q:Rat,t=ratB q∧RL q 200) (hc:∀ (j:Nat) (t:ByteArray),ts[j]? = some t→w.cell? ⟨blk,j,none⟩=some (.string t)) :
   Calls Tryz.prog 143 #[.slice (some ⟨blk,0,none⟩) n c,.func (Fn.func 117) #[] #[]] w (Ret w (.int .i64 (-1))):=by
 have HC:=Lib.hid hc
 have HM:=Lib.hid hm
 have HN:=Lib.hid hn
 clear hc hm hn
 go_enter Tryz.func143,Tryz.ntmps143
 go_wp2
 go_loopw [8] (fun i wr=>∃ k:Nat,k≤n∧i = .int .i64 k∧Below w.heap.size w wr) (fun i _=>n - (intOf i).toNat)
 case atStart=>exact ⟨0,Nat.zero_le _,rfl,Below.refl _ _⟩
 case round =>
   obtain ⟨k,hk,rfl,hb⟩:=hrel
   by_cases hlt:k < n
   · obtain ⟨t,ht⟩:∃ t,ts[k]? = some t:=⟨_,List.getElem?_eq_getElem (by rw [HN.out];exact hlt)⟩
     have x0:wr.cell? ⟨blk,k,none⟩=some (.string t):=zC hb (HC.out k t ht)
     have CR:Hid (CR 117 #[.string t] (.bool false)):=by
       obtain ⟨q,e,hq⟩:=HM.out t (List.mem_of_getElem? ht)
       exact Lib.hid (fun w R=>by rw [e];exact isLong_any q hq w R)
     clear ht
     go_wp2_with (go_at_call 117;with_reducible refine (chRB hb R CR).mono ?_;clear hb;rintro e w1 ⟨rfl,hk2,hb⟩;clear hk2)
     go_roundw
     case rel=>exact ⟨k+1,by omega,by go_num,hb⟩
     case measure=>simp [intOf];omega
   · have ek:k=n:=by omega
     go_wp2
     go_ret
     exact ⟨rfl,hb⟩
theorem containsLong_w (blk n c:Nat) (ts:List ByteArray) (hn:ts.length=n) (hnb:n≤20) (w:World) (R:EnvR w)
   (hm:∀ t,t ∈ ts→∃ q:Rat,t=ratB q∧RL q 200) (hc:∀ (j:Nat) (t:ByteArray),ts[j]? = some t→w.cell? ⟨blk,j,none⟩=some (.string t)) :
   Calls Tryz.prog 116 #[.slice (some ⟨blk,0,none⟩) n c,.func (Fn.func 117) #[] #[]] w (Ret w (.bool false)):=by
 have C1:=Lib.hid (indexLong_w blk n c ts hn hnb w R hm hc)
 clear hm hc hn
 have hb:=Below.refl w.heap.size w
 go_enter Tryz.func116,Tryz.ntmps116
 go_wp2_with (go_at_call 143;(with_reducible refine (zK hb C1.out).mono ?_);clear hb;rintro e w1 ⟨rfl,hk,hb⟩;clear hk)
 go_ret
 exact ⟨rfl,hb⟩
theorem resR_w (w:World) (R:EnvR w) (s0:ByteArray) (blk n c:Nat) (h:∀ w0:World,Below w.heap.size w w0→EnvR w0→Calls Tryz.prog 116 #[.slice (some ⟨blk,0,none⟩) n c,.func (Fn.func 117) #[] #[]] w0 fun e w' => e = .returned (.bool false)∧Below w0.heap.size w0 w') :
   Calls Tryz.prog 82 #[.string s0,.slice (some ⟨blk,0,none⟩) n c] w (Ret w (.tuple #[.string s0,.int .i64 0])):=by
 have H:=Lib.hid h
 clear h
 have hb:=Below.refl w.heap.size w
 go_enter Tryz.func82,Tryz.ntmps82
 go_wp2_with (go_at_call 116;(with_reducible refine (zK hb (H.out _ hb (R.below hb))).mono ?_);clear hb;rintro e w1 ⟨rfl,hk,hb⟩;clear hk)
 first | go_ret | go_ret2 | go_ret3
 exact ⟨rfl,hb⟩
set_option maxRecDepth 512 in
theorem resR (s0 t0:ByteArray) (hm:∀ t,t ∈ [t0]→∃ q:Rat,t=ratB q∧RL q 200) (w:World) (R:EnvR w) :
   Calls Tryz.prog 82 #[.string s0,.slice (some ⟨w.heap.size,0,none⟩) 1 1] (w.alloc (Obj.cells #[Value.string t0] 22)) (Ret w (.tuple #[.string s0,.int .i64 0])):=by
 have hba:Below w.heap.size w (w.alloc (Obj.cells #[Value.string t0] 22)):=(Below.refl _ _).alloc (Nat.le_refl _) _
 refine (resR_w _ (R.below hba) s0 w.heap.size 1 1 (fun w0 hb R0=>containsLong_w w.heap.size 1 1 [t0] rfl (by decide) w0 R0 hm ?_)).mono fun e w' h=>⟨h.1,hba.trans (h.2.mono hba.size)⟩
 intro j t h
 refine zC hb ?_
 match j,h with
 | 0,h=>injection h with h;subst h;simp [go_sem]
 | j+1,h=>simp at h
theorem resV_w (w:World) (R:EnvR w) (s0 s1 s2:ByteArray) (blk n c:Nat) (h:∀ w0:World,Below w.heap.size w w0→EnvR w0→Calls Tryz.prog 116 #[.slice (some ⟨blk,0,none⟩) n c,.func (Fn.func 117) #[] #[]] w0 fun e w' => e = .returned (.bool false)∧Below w0.heap.size w0 w') :
   Calls Tryz.prog 85 #[.agg #[.string s0,.string s1,.string s2],.slice (some ⟨blk,0,none⟩) n c] w (Ret w (.tuple #[.agg #[.string s0,.string s1,.string s2],.int .i64 0])):=by
 have H:=Lib.hid h
 clear h
 have hb:=Below.refl w.heap.size w
 go_enter Tryz.func85,Tryz.ntmps85
 go_upto_region 1 with fail
 refine wp_alloc2 (fun w1 a0 a1 hk=>?_)
 replace hb:=hb.trans (hk.mono hb.size)
 clear hk
 obtain ⟨Ad,Ae,Af⟩:=ce3 a0
 obtain ⟨Aa,Ag,Ab,Ah,Ac,Ai⟩:=cf3 a1
 go_wp2_with (go_at_call 116;(with_reducible refine (zK hb (H.out _ hb (R.below hb))).mono ?_);clear hb;rintro e w1 ⟨rfl,hk,hb⟩;replace Ag:=zF hk a1 Ag;replace Ah:=zF hk a1 Ah;replace Ai:=zF hk a1 Ai;replace Ad:=zC hk Ad;replace Ae:=zC hk Ae;replace Af:=zC hk Af;replace Aa:=zC hk Aa;replace Ab:=zC hk Ab;replace Ac:=zC hk Ac;clear hk)
 refine bodyPost_ret (v:=.tuple #[.agg #[.string s0,.string s1,.string s2],.int .i64 0]) (by simp [results,Tryz.results85,go_sem,Aa,Ab,Ac]) rfl ⟨rfl,?_⟩
 repeat' (first | exact hb | refine Below.setCell ?_ (by first | exact Nat.le_refl _ | (dsimp only;omega)) _)
set_option maxRecDepth 512 in
theorem resV (s0 s1 s2 t0 t1 t2:ByteArray) (hm:∀ t,t ∈ [t0,t1,t2]→∃ q:Rat,t=ratB q∧RL q 200) (w:World) (R:EnvR w) :
   Calls Tryz.prog 85 #[.agg #[.string s0,.string s1,.string s2],.slice (some ⟨w.heap.size,0,none⟩) 3 3] (w.alloc (Obj.cells #[Value.string t0,Value.string t1,Value.string t2] 22)) (Ret w (.tuple #[.agg #[.string s0,.string s1,.string s2],.int .i64 0])):=by
 have hba:Below w.heap.size w (w.alloc (Obj.cells #[Value.string t0,Value.string t1,Value.string t2] 22)):=(Below.refl _ _).alloc (Nat.le_refl _) _
 refine (resV_w _ (R.below hba) s0 s1 s2 w.heap.size 3 3 (fun w0 hb R0=>containsLong_w w.heap.size 3 3 [t0,t1,t2] rfl (by decide) w0 R0 hm ?_)).mono fun e w' h=>⟨h.1,hba.trans (h.2.mono hba.size)⟩
 intro j t h
 refine zC hb ?_
 match j,h with
 | 0,h=>injection h with h;subst h;simp [go_sem]
 | 1,h=>injection h with h;subst h;simp [go_sem]
 | 2,h=>injection h with h;subst h;simp [go_sem]
 | j+3,h=>simp at h
theorem det_any (a b c d:Rat) (r1:RL a 10000) (r2:RL d 10000) (r3:RL b 10000) (r4:RL c 10000) (r5:RL (a*d) 10000) (r6:RL (b*c) 10000) (w:World) (R:EnvR w) :
   Calls Tryz.prog 111 #[.string (ratB a),.string (ratB b),.string (ratB c),.string (ratB d)] w (Ret w (.string (ratB ((a*d) - (b*c))))):=by
 have c1:=rmul_any a d r1 r2
 have c2:=rmul_any b c r3 r4
 have c3:=rsub_any (a*d) (b*c) r5 r6
 have C1:=Lib.hid c1
 have C2:=Lib.hid c2
 have C3:=Lib.hid c3
 clear c1 c2 c3 r1 r2 r3 r4 r5 r6
 have hb:=Below.refl w.heap.size w
 go_enter Tryz.func111,Tryz.ntmps111
 go_wp2_with ((first | (go_at_call 38;first | with_reducible refine (chRB hb R C1).mono ?_ | with_reducible refine (chRB hb R C2).mono ?_) | (go_at_call 112;with_reducible refine (chRB hb R C3).mono ?_));clear hb;rintro e w1 ⟨rfl,hk,hb⟩;clear hk)
 first | go_ret | go_ret2 | go_ret3
 exact ⟨rfl,hb⟩
theorem cross_any (a b c x y z:Rat) (r1:RL b 10000) (r2:RL z 10000) (r3:RL c 10000) (r4:RL y 10000) (r5:RL (b*z) 10000) (r6:RL (c*y) 10000) (r7:RL x 10000) (r8:RL a 10000) (r9:RL (c*x) 10000) (r10:RL (a*z) 10000) (r11:RL (a*y) 10000) (r12:RL (b*x) 10000) (w:World) (R:EnvR w) :
   Calls Tryz.prog 77 #[.agg #[.string (ratB a),.string (ratB b),.string (ratB c)],.agg #[.string (ratB x),.string (ratB y),.string (ratB z)]] w (Ret w (.agg #[.string (ratB ((b*z) - (c*y))),.string (ratB ((c*x) - (a*z))),.string (ratB ((a*y) - (b*x)))])):=by
 have c1:=det_any b c y z r1 r2 r3 r4 r5 r6
 have c2:=det_any c a z x r3 r7 r8 r2 r9 r10
 have c3:=det_any a b x y r8 r4 r1 r7 r11 r12
 have C1:=Lib.hid c1
 have C2:=Lib.hid c2
 have C3:=Lib.hid c3
 clear c1 c2 c3 r1 r2 r3 r4 r5 r6 r7 r8 r9 r10 r11 r12
 have hb:=Below.refl w.heap.size w
 go_enter Tryz.func77,Tryz.ntmps77
 go_upto_region 1 with fail
 refine wp_alloc3 (fun w1 a0 a1 a2 hk=>?_)
 replace hb:=hb.trans (hk.mono hb.size)
 clear hk
 obtain ⟨Ad,Ae,Af⟩:=ce3 a0
 obtain ⟨Ag,Ah,Ai⟩:=ce3 a1
 obtain ⟨Aa,Aj,Ab,Ak,Ac,Al⟩:=cf3 a2
 go_upto_region 1 with fail
 obtain ⟨Ap,Aq,Ar⟩:=cy3 a0
 obtain ⟨As,At,Au⟩:=cy3 a1
 obtain ⟨Av,Aw,Ax⟩:=cy3 a2
 have Am:=rrR C1 R hb
 have An:=rrR C2 R hb
 have Ao:=rrR C3 R hb
 refine wp_region_tail_below 28 (by first | assumption | kernel_rfl) (by kernel_rfl) ?_
 simp only [List.take_succ_cons,List.take_zero,List.drop_succ_cons,List.drop_zero]
 repeat (quiet_step (first | (with_reducible exact Am.out _ _) | (with_reducible exact An.out _ _) | (with_reducible exact Ao.out _ _)))
 refine wpQuiet_nil ?_
 intro w1 hw'
 obtain ⟨hk,hb⟩:=zQ hb hw'
 clear Ad Ae Af Ag Ah Ai Aa Ab Ac Aj Ak Al
 replace a0:=zB hk a0
 replace a1:=zB hk a1
 replace a2:=zB hk a2
 obtain ⟨Ad,Ae,Af⟩:=ce3 a0
 obtain ⟨Ag,Ah,Ai⟩:=ce3 a1
 obtain ⟨Aa,Aj,Ab,Ak,Ac,Al⟩:=cf3 a2
 clear Am An Ao Ap Aq Ar As At Au Av Aw Ax
 clear hk hw'
 go_wp2
 refine bodyPost_ret (v:=.agg #[.string (ratB ((b*z) - (c*y))),.string (ratB ((c*x) - (a*z))),.string (ratB ((a*y) - (b*x)))]) (by simp [results,Tryz.results77,go_sem,Aa,Ab,Ac]) rfl ⟨rfl,?_⟩
 repeat' (first | exact hb | refine Below.setCell ?_ (by first | exact Nat.le_refl _ | (dsimp only;omega)) _)
theorem vcheck_ok (a b c:Rat) (r1:RL a 200) (r2:RL b 200) (r3:RL c 200) (w:World) (R:EnvR w) :
   Calls Tryz.prog 76 #[.agg #[.string (ratB a),.string (ratB b),.string (ratB c)]] w (Ret w (.int .i64 0)):=by
 have c1:∀ w,EnvR w→Calls Tryz.prog 110 #[.slice (some ⟨w.heap.size,0,none⟩) 3 3] (w.alloc (Obj.cells #[Value.string (ratB a),Value.string (ratB b),Value.string (ratB c)] 22)) (Ret w (.int .i64 0)):=fun w R=>numCheck3 (ratB a) (ratB b) (ratB c) 0 (fun _=>rfl) (fun h=>absurd ⟨isRat_of r1,isRat_of r2,isRat_of r3⟩ h) (Nat.le_trans (size_of_RL r1) (by decide)) (Nat.le_trans (size_of_RL r2) (by decide)) (Nat.le_trans (size_of_RL r3) (by decide)) w R
 have C1:=Lib.hid c1
 clear c1 r1 r2 r3
 have hb:=Below.refl w.heap.size w
 go_enter Tryz.func76,Tryz.ntmps76
 go_upto_region 1 with fail
 refine wp_alloc1 (fun w1 a0 hk=>?_)
 replace hb:=hb.trans (hk.mono hb.size)
 clear hk
 obtain ⟨Aa,Ab,Ac⟩:=ce3 a0
 go_wp2_with (go_at_call 110;with_reducible refine (zL hb (C1.out _ (R.below hb))).mono ?_;clear hb;rintro e w1 ⟨rfl,hk,hb⟩;clear Aa Ab Ac;replace a0:=zB hk a0;obtain ⟨Aa,Ab,Ac⟩:=ce3 a0;clear hk)
 first | go_ret | go_ret2 | go_ret3
 exact ⟨rfl,hb⟩
structure EnvV (w:World):Prop extends EnvR w where
 z0:w.cell? ⟨0,0,none⟩=some (.string ⟨#[48]⟩)
 z1:w.cell? ⟨0,1,none⟩=some (.string ⟨#[48]⟩)
 z2:w.cell? ⟨0,2,none⟩=some (.string ⟨#[48]⟩)
theorem EnvV.below {w w':World} (h:EnvV w) (hb:Below w.heap.size w w'):EnvV w':=
 ⟨h.toEnvR.below hb,zC hb h.z0,zC hb h.z1,zC hb h.z2⟩
@[reducible] def CV (f : FuncId) (args : Array Value) (v : Value) : Prop := ∀ w, EnvV w → Calls Tryz.prog f args w (Ret w v)
theorem rrV {f:FuncId} {args:Array Value} {v:Value} {w0 w:World} (C:Hid (∀ w,EnvV w→Calls Tryz.prog f args w (Ret w v))) (R:EnvV w0) (hb:Below w0.heap.size w0 w):Hid (∀ d os,Calls Tryz.prog f args (Sort.grow (redrawn w d) os) fun e w'' => e = .returned v∧∃ p:Regrown,w''=Sort.grow (redrawn w p.d) p.os):=Lib.hid (fun d os=>Calls.regrown_of (C.out (Sort.grow (redrawn w d) os) (R.below (hb.trans ((below_regrown w d os).mono hb.size)))))
theorem chVB {f:FuncId} {args:Array Value} {v:Value} {w0 w:World} (hb:Below w0.heap.size w0 w) (R:EnvV w0) (C:Hid (∀ w,EnvV w→Calls Tryz.prog f args w (Ret w v))):Calls Tryz.prog f args w fun e w' => e = .returned v∧Below w.heap.size w w'∧Below w0.heap.size w0 w':=zK hb (C.out _ (R.below hb))
theorem zero_iff (q:Rat):((ratB q).toList=[48])↔q=0:=by
 have:=ratB_eq_zero q
 rw [← beq_iff_eq,this,decide_eq_true_iff]
theorem retBI {k:IntKind} {x y:Bool} {z:Int} (h:x=y):Ending.returned (.tuple #[.bool x,.int k z]) = .returned (.tuple #[.bool y,.int k z]):=by rw [h]
theorem isZero_any (a b c:Rat) (r1:RL a 200) (r2:RL b 200) (r3:RL c 200) (w:World) (R:EnvV w) :
   Calls Tryz.prog 42 #[.agg #[.string (ratB a),.string (ratB b),.string (ratB c)]] w (Ret w (.tuple #[.bool (decide (a=0∧b=0∧c=0)),.int .i64 0])):=by
 have c1:=fun (w:World) (R:EnvV w)=>vcheck_ok a b c r1 r2 r3 w R.toEnvR
 have C1:=Lib.hid c1
 clear c1 r1 r2 r3
 have hb:=Below.refl w.heap.size w
 have Aa:w.cell? ⟨0,0,none⟩=some (Value.string ⟨#[48]⟩):=R.z0
 have Ab:w.cell? ⟨0,1,none⟩=some (Value.string ⟨#[48]⟩):=R.z1
 have Ac:w.cell? ⟨0,2,none⟩=some (Value.string ⟨#[48]⟩):=R.z2
 go_enter Tryz.func42,Tryz.ntmps42
 go_upto_region 1 with fail
 refine wp_alloc1 (fun w1 a0 hk=>?_)
 replace Aa:=zC hk Aa
 replace Ab:=zC hk Ab
 replace Ac:=zC hk Ac
 replace hb:=hb.trans (hk.mono hb.size)
 clear hk
 obtain ⟨Ad,Ae,Af⟩:=ce3 a0
 go_wp2_with (go_at_call 76;with_reducible refine (chVB hb R C1).mono ?_;clear hb;rintro e w1 ⟨rfl,hk,hb⟩;replace Aa:=zC hk Aa;replace Ab:=zC hk Ab;replace Ac:=zC hk Ac;clear Ad Ae Af;replace a0:=zB hk a0;obtain ⟨Ad,Ae,Af⟩:=ce3 a0;clear hk)
 all_goals (go_ret2;refine ⟨retBI ?_,hb⟩;simp_all [zero_iff])
theorem parallel_0 (a b c x y z:Rat) (n0:((b*z) - (c*y))≠0) (r1:RL a 200) (r2:RL b 200) (r3:RL c 200) (r4:RL x 200) (r5:RL y 200) (r6:RL z 200) (r7:RL b 10000) (r8:RL z 10000) (r9:RL c 10000) (r10:RL y 10000) (r11:RL (b*z) 10000) (r12:RL (c*y) 10000) (r13:RL x 10000) (r14:RL a 10000) (r15:RL (c*x) 10000) (r16:RL (a*z) 10000) (r17:RL (a*y) 10000) (r18:RL (b*x) 10000) (w:World) (R:EnvV w) :
   Calls Tryz.prog 44 #[.agg #[.string (ratB a),.string (ratB b),.string (ratB c)],.agg #[.string (ratB x),.string (ratB y),.string (ratB z)]] w (Ret w (.tuple #[.bool false,.int .i64 0])):=by
 have c1:=fun (w:World) (R:EnvV w)=>vcheck_ok a b c r1 r2 r3 w R.toEnvR
 have c2:=fun (w:World) (R:EnvV w)=>vcheck_ok x y z r4 r5 r6 w R.toEnvR
 have c3:=fun (w:World) (R:EnvV w)=>orErr2 0 0 0 (by decide) w R.toEnvR
 have c4:=fun (w:World) (R:EnvV w)=>cross_any a b c x y z r7 r8 r9 r10 r11 r12 r13 r14 r15 r16 r17 r18 w R.toEnvR
 have e0:((ratB ((b*z) - (c*y))).toList == [48])=false:=by rw [ratB_eq_zero];exact decide_eq_false n0
 have p0:¬ (ratB ((b*z) - (c*y))).toList=[48]:=fun h=>n0 ((zero_iff _).1 h)
 obtain ⟨t0,et0⟩:∃ v,ratB ((b*z) - (c*y))=v:=⟨_,rfl⟩
 try simp only [et0] at c1 c2 c3 c4 e0 p0 ⊢
 obtain ⟨t1,et1⟩:∃ v,ratB ((c*x) - (a*z))=v:=⟨_,rfl⟩
 try simp only [et1] at c1 c2 c3 c4 e0 p0 ⊢
 obtain ⟨t2,et2⟩:∃ v,ratB ((a*y) - (b*x))=v:=⟨_,rfl⟩
 try simp only [et2] at c1 c2 c3 c4 e0 p0 ⊢
 have C1:=Lib.hid c1
 have C2:=Lib.hid c2
 have C3:=Lib.hid c3
 have C4:=Lib.hid c4
 clear c1 c2 c3 c4 et0 et1 et2 n0 r1 r2 r3 r4 r5 r6 r7 r8 r9 r10 r11 r12 r13 r14 r15 r16 r17 r18
 have hb:=Below.refl w.heap.size w
 have Aa:w.cell? ⟨0,0,none⟩=some (Value.string ⟨#[48]⟩):=R.z0
 have Ab:w.cell? ⟨0,1,none⟩=some (Value.string ⟨#[48]⟩):=R.z1
 have Ac:w.cell? ⟨0,2,none⟩=some (Value.string ⟨#[48]⟩):=R.z2
 go_enter Tryz.func44,Tryz.ntmps44
 go_upto_region 1 with fail
 refine wp_alloc2 (fun w1 a0 a1 hk=>?_)
 replace Aa:=zC hk Aa
 replace Ab:=zC hk Ab
 replace Ac:=zC hk Ac
 replace hb:=hb.trans (hk.mono hb.size)
 clear hk
 obtain ⟨Ad,Ae,Af⟩:=ce3 a0
 obtain ⟨Ag,Ah,Ai⟩:=ce3 a1
 go_upto_region 1 with fail
 have Aj:=zR Aa
 have Ak:=zR Ab
 have Al:=zR Ac
 obtain ⟨Am,An,Ao⟩:=cy3 a0
 obtain ⟨Ap,Aq,Ar⟩:=cy3 a1
 have As:=rrV C1 R hb
 have At:=rrV C2 R hb
 refine wp_region_tail_below 4 (by first | assumption | kernel_rfl) (by kernel_rfl) ?_
 simp only [List.take_succ_cons,List.take_zero,List.drop_succ_cons,List.drop_zero]
 repeat (quiet_step (first | (with_reducible exact As.out _ _) | (with_reducible exact At.out _ _)))
 refine wpQuiet_nil ?_
 intro w1 hw'
 obtain ⟨hk,hb⟩:=zQ hb hw'
 replace Aa:=zC hk Aa
 replace Ab:=zC hk Ab
 replace Ac:=zC hk Ac
 clear Ad Ae Af Ag Ah Ai
 replace a0:=zB hk a0
 replace a1:=zB hk a1
 obtain ⟨Ad,Ae,Af⟩:=ce3 a0
 obtain ⟨Ag,Ah,Ai⟩:=ce3 a1
 clear As At Aj Ak Al Am An Ao Ap Aq Ar
 clear hk hw'
 go_upto_region 4 with (go_at_call 43;with_reducible refine (zL hb (C3.out _ (R.below hb))).mono ?_;clear hb;rintro e w1 ⟨rfl,hk,hb⟩;replace Aa:=zC hk Aa;replace Ab:=zC hk Ab;replace Ac:=zC hk Ac;clear Ad Ae Af Ag Ah Ai;replace a0:=zB hk a0;replace a1:=zB hk a1;obtain ⟨Ad,Ae,Af⟩:=ce3 a0;obtain ⟨Ag,Ah,Ai⟩:=ce3 a1;clear hk)
 have Aj:=zR Aa
 have Ak:=zR Ab
 have Al:=zR Ac
 obtain ⟨Am,An,Ao⟩:=cy3 a0
 obtain ⟨Ap,Aq,Ar⟩:=cy3 a1
 have Au:=rrV C4 R hb
 refine wp_region_quiet_below (by first | assumption | kernel_rfl) (by kernel_rfl) ?_
 repeat (quiet_step (first | (with_reducible exact Au.out _ _)))
 refine wpQuiet_nil ?_
 intro w1 hw'
 obtain ⟨hk,hb⟩:=zQ hb hw'
 replace Aa:=zC hk Aa
 replace Ab:=zC hk Ab
 replace Ac:=zC hk Ac
 clear Ad Ae Af Ag Ah Ai
 replace a0:=zB hk a0
 replace a1:=zB hk a1
 obtain ⟨Ad,Ae,Af⟩:=ce3 a0
 obtain ⟨Ag,Ah,Ai⟩:=ce3 a1
 clear Au Aj Ak Al Am An Ao Ap Aq Ar
 clear hk hw'
 go_wp2
 first | go_ret | go_ret2 | go_ret3
 exact ⟨rfl,hb⟩
theorem parallel_1 (a b c x y z:Rat) (z0:((b*z) - (c*y))=0) (n1:((c*x) - (a*z))≠0) (r1:RL a 200) (r2:RL b 200) (r3:RL c 200) (r4:RL x 200) (r5:RL y 200) (r6:RL z 200) (r7:RL b 10000) (r8:RL z 10000) (r9:RL c 10000) (r10:RL y 10000) (r11:RL (b*z) 10000) (r12:RL (c*y) 10000) (r13:RL x 10000) (r14:RL a 10000) (r15:RL (c*x) 10000) (r16:RL (a*z) 10000) (r17:RL (a*y) 10000) (r18:RL (b*x) 10000) (w:World) (R:EnvV w) :
   Calls Tryz.prog 44 #[.agg #[.string (ratB a),.string (ratB b),.string (ratB c)],.agg #[.string (ratB x),.string (ratB y),.string (ratB z)]] w (Ret w (.tuple #[.bool false,.int .i64 0])):=by
 have c1:=fun (w:World) (R:EnvV w)=>vcheck_ok a b c r1 r2 r3 w R.toEnvR
 have c2:=fun (w:World) (R:EnvV w)=>vcheck_ok x y z r4 r5 r6 w R.toEnvR
 have c3:=fun (w:World) (R:EnvV w)=>orErr2 0 0 0 (by decide) w R.toEnvR
 have c4:=fun (w:World) (R:EnvV w)=>cross_any a b c x y z r7 r8 r9 r10 r11 r12 r13 r14 r15 r16 r17 r18 w R.toEnvR
 have e0:((ratB ((b*z) - (c*y))).toList == [48])=true:=by rw [ratB_eq_zero];exact decide_eq_true z0
 have p0:(ratB ((b*z) - (c*y))).toList=[48]:=(zero_iff _).2 z0
 have e1:((ratB ((c*x) - (a*z))).toList == [48])=false:=by rw [ratB_eq_zero];exact decide_eq_false n1
 have p1:¬ (ratB ((c*x) - (a*z))).toList=[48]:=fun h=>n1 ((zero_iff _).1 h)
 obtain ⟨t0,et0⟩:∃ v,ratB ((b*z) - (c*y))=v:=⟨_,rfl⟩
 try simp only [et0] at c1 c2 c3 c4 e0 p0 e1 p1 ⊢
 obtain ⟨t1,et1⟩:∃ v,ratB ((c*x) - (a*z))=v:=⟨_,rfl⟩
 try simp only [et1] at c1 c2 c3 c4 e0 p0 e1 p1 ⊢
 obtain ⟨t2,et2⟩:∃ v,ratB ((a*y) - (b*x))=v:=⟨_,rfl⟩
 try simp only [et2] at c1 c2 c3 c4 e0 p0 e1 p1 ⊢
 have C1:=Lib.hid c1
 have C2:=Lib.hid c2
 have C3:=Lib.hid c3
 have C4:=Lib.hid c4
 clear c1 c2 c3 c4 et0 et1 et2 z0 n1 r1 r2 r3 r4 r5 r6 r7 r8 r9 r10 r11 r12 r13 r14 r15 r16 r17 r18
 have hb:=Below.refl w.heap.size w
 have Aa:w.cell? ⟨0,0,none⟩=some (Value.string ⟨#[48]⟩):=R.z0
 have Ab:w.cell? ⟨0,1,none⟩=some (Value.string ⟨#[48]⟩):=R.z1
 have Ac:w.cell? ⟨0,2,none⟩=some (Value.string ⟨#[48]⟩):=R.z2
 go_enter Tryz.func44,Tryz.ntmps44
 go_upto_region 1 with fail
 refine wp_alloc2 (fun w1 a0 a1 hk=>?_)
 replace Aa:=zC hk Aa
 replace Ab:=zC hk Ab
 replace Ac:=zC hk Ac
 replace hb:=hb.trans (hk.mono hb.size)
 clear hk
 obtain ⟨Ad,Ae,Af⟩:=ce3 a0
 obtain ⟨Ag,Ah,Ai⟩:=ce3 a1
 go_upto_region 1 with fail
 have Aj:=zR Aa
 have Ak:=zR Ab
 have Al:=zR Ac
 obtain ⟨Am,An,Ao⟩:=cy3 a0
 obtain ⟨Ap,Aq,Ar⟩:=cy3 a1
 have As:=rrV C1 R hb
 have At:=rrV C2 R hb
 refine wp_region_tail_below 4 (by first | assumption | kernel_rfl) (by kernel_rfl) ?_
 simp only [List.take_succ_cons,List.take_zero,List.drop_succ_cons,List.drop_zero]
 repeat (quiet_step (first | (with_reducible exact As.out _ _) | (with_reducible exact At.out _ _)))
 refine wpQuiet_nil ?_
 intro w1 hw'
 obtain ⟨hk,hb⟩:=zQ hb hw'
 replace Aa:=zC hk Aa
 replace Ab:=zC hk Ab
 replace Ac:=zC hk Ac
 clear Ad Ae Af Ag Ah Ai
 replace a0:=zB hk a0
 replace a1:=zB hk a1
 obtain ⟨Ad,Ae,Af⟩:=ce3 a0
 obtain ⟨Ag,Ah,Ai⟩:=ce3 a1
 clear As At Aj Ak Al Am An Ao Ap Aq Ar
 clear hk hw'
 go_upto_region 4 with (go_at_call 43;with_reducible refine (zL hb (C3.out _ (R.below hb))).mono ?_;clear hb;rintro e w1 ⟨rfl,hk,hb⟩;replace Aa:=zC hk Aa;replace Ab:=zC hk Ab;replace Ac:=zC hk Ac;clear Ad Ae Af Ag Ah Ai;replace a0:=zB hk a0;replace a1:=zB hk a1;obtain ⟨Ad,Ae,Af⟩:=ce3 a0;obtain ⟨Ag,Ah,Ai⟩:=ce3 a1;clear hk)
 have Aj:=zR Aa
 have Ak:=zR Ab
 have Al:=zR Ac
 obtain ⟨Am,An,Ao⟩:=cy3 a0
 obtain ⟨Ap,Aq,Ar⟩:=cy3 a1
 have Au:=rrV C4 R hb
 refine wp_region_quiet_below (by first | assumption | kernel_rfl) (by kernel_rfl) ?_
 repeat (quiet_step (first | (with_reducible exact Au.out _ _)))
 refine wpQuiet_nil ?_
 intro w1 hw'
 obtain ⟨hk,hb⟩:=zQ hb hw'
 replace Aa:=zC hk Aa
 replace Ab:=zC hk Ab
 replace Ac:=zC hk Ac
 clear Ad Ae Af Ag Ah Ai
 replace a0:=zB hk a0
 replace a1:=zB hk a1
 obtain ⟨Ad,Ae,Af⟩:=ce3 a0
 obtain ⟨Ag,Ah,Ai⟩:=ce3 a1
 clear Au Aj Ak Al Am An Ao Ap Aq Ar
 clear hk hw'
 go_wp2
 first | go_ret | go_ret2 | go_ret3
 exact ⟨rfl,hb⟩
theorem parallel_2 (a b c x y z:Rat) (z0:((b*z) - (c*y))=0) (z1:((c*x) - (a*z))=0) (n2:((a*y) - (b*x))≠0) (r1:RL a 200) (r2:RL b 200) (r3:RL c 200) (r4:RL x 200) (r5:RL y 200) (r6:RL z 200) (r7:RL b 10000) (r8:RL z 10000) (r9:RL c 10000) (r10:RL y 10000) (r11:RL (b*z) 10000) (r12:RL (c*y) 10000) (r13:RL x 10000) (r14:RL a 10000) (r15:RL (c*x) 10000) (r16:RL (a*z) 10000) (r17:RL (a*y) 10000) (r18:RL (b*x) 10000) (w:World) (R:EnvV w) :
   Calls Tryz.prog 44 #[.agg #[.string (ratB a),.string (ratB b),.string (ratB c)],.agg #[.string (ratB x),.string (ratB y),.string (ratB z)]] w (Ret w (.tuple #[.bool false,.int .i64 0])):=by
 have c1:=fun (w:World) (R:EnvV w)=>vcheck_ok a b c r1 r2 r3 w R.toEnvR
 have c2:=fun (w:World) (R:EnvV w)=>vcheck_ok x y z r4 r5 r6 w R.toEnvR
 have c3:=fun (w:World) (R:EnvV w)=>orErr2 0 0 0 (by decide) w R.toEnvR
 have c4:=fun (w:World) (R:EnvV w)=>cross_any a b c x y z r7 r8 r9 r10 r11 r12 r13 r14 r15 r16 r17 r18 w R.toEnvR
 have e0:((ratB ((b*z) - (c*y))).toList == [48])=true:=by rw [ratB_eq_zero];exact decide_eq_true z0
 have p0:(ratB ((b*z) - (c*y))).toList=[48]:=(zero_iff _).2 z0
 have e1:((ratB ((c*x) - (a*z))).toList == [48])=true:=by rw [ratB_eq_zero];exact decide_eq_true z1
 have p1:(ratB ((c*x) - (a*z))).toList=[48]:=(zero_iff _).2 z1
 have e2:((ratB ((a*y) - (b*x))).toList == [48])=false:=by rw [ratB_eq_zero];exact decide_eq_false n2
 have p2:¬ (ratB ((a*y) - (b*x))).toList=[48]:=fun h=>n2 ((zero_iff _).1 h)
 obtain ⟨t0,et0⟩:∃ v,ratB ((b*z) - (c*y))=v:=⟨_,rfl⟩
 try simp only [et0] at c1 c2 c3 c4 e0 p0 e1 p1 e2 p2 ⊢
 obtain ⟨t1,et1⟩:∃ v,ratB ((c*x) - (a*z))=v:=⟨_,rfl⟩
 try simp only [et1] at c1 c2 c3 c4 e0 p0 e1 p1 e2 p2 ⊢
 obtain ⟨t2,et2⟩:∃ v,ratB ((a*y) - (b*x))=v:=⟨_,rfl⟩
 try simp only [et2] at c1 c2 c3 c4 e0 p0 e1 p1 e2 p2 ⊢
 have C1:=Lib.hid c1
 have C2:=Lib.hid c2
 have C3:=Lib.hid c3
 have C4:=Lib.hid c4
 clear c1 c2 c3 c4 et0 et1 et2 z0 z1 n2 r1 r2 r3 r4 r5 r6 r7 r8 r9 r10 r11 r12 r13 r14 r15 r16 r17 r18
 have hb:=Below.refl w.heap.size w
 have Aa:w.cell? ⟨0,0,none⟩=some (Value.string ⟨#[48]⟩):=R.z0
 have Ab:w.cell? ⟨0,1,none⟩=some (Value.string ⟨#[48]⟩):=R.z1
 have Ac:w.cell? ⟨0,2,none⟩=some (Value.string ⟨#[48]⟩):=R.z2
 go_enter Tryz.func44,Tryz.ntmps44
 go_upto_region 1 with fail
 refine wp_alloc2 (fun w1 a0 a1 hk=>?_)
 replace Aa:=zC hk Aa
 replace Ab:=zC hk Ab
 replace Ac:=zC hk Ac
 replace hb:=hb.trans (hk.mono hb.size)
 clear hk
 obtain ⟨Ad,Ae,Af⟩:=ce3 a0
 obtain ⟨Ag,Ah,Ai⟩:=ce3 a1
 go_upto_region 1 with fail
 have Aj:=zR Aa
 have Ak:=zR Ab
 have Al:=zR Ac
 obtain ⟨Am,An,Ao⟩:=cy3 a0
 obtain ⟨Ap,Aq,Ar⟩:=cy3 a1
 have As:=rrV C1 R hb
 have At:=rrV C2 R hb
 refine wp_region_tail_below 4 (by first | assumption | kernel_rfl) (by kernel_rfl) ?_
 simp only [List.take_succ_cons,List.take_zero,List.drop_succ_cons,List.drop_zero]
 repeat (quiet_step (first | (with_reducible exact As.out _ _) | (with_reducible exact At.out _ _)))
 refine wpQuiet_nil ?_
 intro w1 hw'
 obtain ⟨hk,hb⟩:=zQ hb hw'
 replace Aa:=zC hk Aa
 replace Ab:=zC hk Ab
 replace Ac:=zC hk Ac
 clear Ad Ae Af Ag Ah Ai
 replace a0:=zB hk a0
 replace a1:=zB hk a1
 obtain ⟨Ad,Ae,Af⟩:=ce3 a0
 obtain ⟨Ag,Ah,Ai⟩:=ce3 a1
 clear As At Aj Ak Al Am An Ao Ap Aq Ar
 clear hk hw'
 go_upto_region 4 with (go_at_call 43;with_reducible refine (zL hb (C3.out _ (R.below hb))).mono ?_;clear hb;rintro e w1 ⟨rfl,hk,hb⟩;replace Aa:=zC hk Aa;replace Ab:=zC hk Ab;replace Ac:=zC hk Ac;clear Ad Ae Af Ag Ah Ai;replace a0:=zB hk a0;replace a1:=zB hk a1;obtain ⟨Ad,Ae,Af⟩:=ce3 a0;obtain ⟨Ag,Ah,Ai⟩:=ce3 a1;clear hk)
 have Aj:=zR Aa
 have Ak:=zR Ab
 have Al:=zR Ac
 obtain ⟨Am,An,Ao⟩:=cy3 a0
 obtain ⟨Ap,Aq,Ar⟩:=cy3 a1
 have Au:=rrV C4 R hb
 refine wp_region_quiet_below (by first | assumption | kernel_rfl) (by kernel_rfl) ?_
 repeat (quiet_step (first | (with_reducible exact Au.out _ _)))
 refine wpQuiet_nil ?_
 intro w1 hw'
 obtain ⟨hk,hb⟩:=zQ hb hw'
 replace Aa:=zC hk Aa
 replace Ab:=zC hk Ab
 replace Ac:=zC hk Ac
 clear Ad Ae Af Ag Ah Ai
 replace a0:=zB hk a0
 replace a1:=zB hk a1
 obtain ⟨Ad,Ae,Af⟩:=ce3 a0
 obtain ⟨Ag,Ah,Ai⟩:=ce3 a1
 clear Au Aj Ak Al Am An Ao Ap Aq Ar
 clear hk hw'
 go_wp2
 first | go_ret | go_ret2 | go_ret3
 exact ⟨rfl,hb⟩
theorem parallel_3 (a b c x y z:Rat) (z0:((b*z) - (c*y))=0) (z1:((c*x) - (a*z))=0) (z2:((a*y) - (b*x))=0) (r1:RL a 200) (r2:RL b 200) (r3:RL c 200) (r4:RL x 200) (r5:RL y 200) (r6:RL z 200) (r7:RL b 10000) (r8:RL z 10000) (r9:RL c 10000) (r10:RL y 10000) (r11:RL (b*z) 10000) (r12:RL (c*y) 10000) (r13:RL x 10000) (r14:RL a 10000) (r15:RL (c*x) 10000) (r16:RL (a*z) 10000) (r17:RL (a*y) 10000) (r18:RL (b*x) 10000) (w:World) (R:EnvV w) :
   Calls Tryz.prog 44 #[.agg #[.string (ratB a),.string (ratB b),.string (ratB c)],.agg #[.string (ratB x),.string (ratB y),.string (ratB z)]] w (Ret w (.tuple #[.bool true,.int .i64 0])):=by
 have c1:=fun (w:World) (R:EnvV w)=>vcheck_ok a b c r1 r2 r3 w R.toEnvR
 have c2:=fun (w:World) (R:EnvV w)=>vcheck_ok x y z r4 r5 r6 w R.toEnvR
 have c3:=fun (w:World) (R:EnvV w)=>orErr2 0 0 0 (by decide) w R.toEnvR
 have c4:=fun (w:World) (R:EnvV w)=>cross_any a b c x y z r7 r8 r9 r10 r11 r12 r13 r14 r15 r16 r17 r18 w R.toEnvR
 have e0:((ratB ((b*z) - (c*y))).toList == [48])=true:=by rw [ratB_eq_zero];exact decide_eq_true z0
 have p0:(ratB ((b*z) - (c*y))).toList=[48]:=(zero_iff _).2 z0
 have e1:((ratB ((c*x) - (a*z))).toList == [48])=true:=by rw [ratB_eq_zero];exact decide_eq_true z1
 have p1:(ratB ((c*x) - (a*z))).toList=[48]:=(zero_iff _).2 z1
 have e2:((ratB ((a*y) - (b*x))).toList == [48])=true:=by rw [ratB_eq_zero];exact decide_eq_true z2
 have p2:(ratB ((a*y) - (b*x))).toList=[48]:=(zero_iff _).2 z2
 obtain ⟨t0,et0⟩:∃ v,ratB ((b*z) - (c*y))=v:=⟨_,rfl⟩
 try simp only [et0] at c1 c2 c3 c4 e0 p0 e1 p1 e2 p2 ⊢
 obtain ⟨t1,et1⟩:∃ v,ratB ((c*x) - (a*z))=v:=⟨_,rfl⟩
 try simp only [et1] at c1 c2 c3 c4 e0 p0 e1 p1 e2 p2 ⊢
 obtain ⟨t2,et2⟩:∃ v,ratB ((a*y) - (b*x))=v:=⟨_,rfl⟩
 try simp only [et2] at c1 c2 c3 c4 e0 p0 e1 p1 e2 p2 ⊢
 have C1:=Lib.hid c1
 have C2:=Lib.hid c2
 have C3:=Lib.hid c3
 have C4:=Lib.hid c4
 clear c1 c2 c3 c4 et0 et1 et2 z0 z1 z2 r1 r2 r3 r4 r5 r6 r7 r8 r9 r10 r11 r12 r13 r14 r15 r16 r17 r18
 have hb:=Below.refl w.heap.size w
 have Aa:w.cell? ⟨0,0,none⟩=some (Value.string ⟨#[48]⟩):=R.z0
 have Ab:w.cell? ⟨0,1,none⟩=some (Value.string ⟨#[48]⟩):=R.z1
 have Ac:w.cell? ⟨0,2,none⟩=some (Value.string ⟨#[48]⟩):=R.z2
 go_enter Tryz.func44,Tryz.ntmps44
 go_upto_region 1 with fail
 refine wp_alloc2 (fun w1 a0 a1 hk=>?_)
 replace Aa:=zC hk Aa
 replace Ab:=zC hk Ab
 replace Ac:=zC hk Ac
 replace hb:=hb.trans (hk.mono hb.size)
 clear hk
 obtain ⟨Ad,Ae,Af⟩:=ce3 a0
 obtain ⟨Ag,Ah,Ai⟩:=ce3 a1
 go_upto_region 1 with fail
 have Aj:=zR Aa
 have Ak:=zR Ab
 have Al:=zR Ac
 obtain ⟨Am,An,Ao⟩:=cy3 a0
 obtain ⟨Ap,Aq,Ar⟩:=cy3 a1
 have As:=rrV C1 R hb
 have At:=rrV C2 R hb
 refine wp_region_tail_below 4 (by first | assumption | kernel_rfl) (by kernel_rfl) ?_
 simp only [List.take_succ_cons,List.take_zero,List.drop_succ_cons,List.drop_zero]
 repeat (quiet_step (first | (with_reducible exact As.out _ _) | (with_reducible exact At.out _ _)))
 refine wpQuiet_nil ?_
 intro w1 hw'
 obtain ⟨hk,hb⟩:=zQ hb hw'
 replace Aa:=zC hk Aa
 replace Ab:=zC hk Ab
 replace Ac:=zC hk Ac
 clear Ad Ae Af Ag Ah Ai
 replace a0:=zB hk a0
 replace a1:=zB hk a1
 obtain ⟨Ad,Ae,Af⟩:=ce3 a0
 obtain ⟨Ag,Ah,Ai⟩:=ce3 a1
 clear As At Aj Ak Al Am An Ao Ap Aq Ar
 clear hk hw'
 go_upto_region 4 with (go_at_call 43;with_reducible refine (zL hb (C3.out _ (R.below hb))).mono ?_;clear hb;rintro e w1 ⟨rfl,hk,hb⟩;replace Aa:=zC hk Aa;replace Ab:=zC hk Ab;replace Ac:=zC hk Ac;clear Ad Ae Af Ag Ah Ai;replace a0:=zB hk a0;replace a1:=zB hk a1;obtain ⟨Ad,Ae,Af⟩:=ce3 a0;obtain ⟨Ag,Ah,Ai⟩:=ce3 a1;clear hk)
 have Aj:=zR Aa
 have Ak:=zR Ab
 have Al:=zR Ac
 obtain ⟨Am,An,Ao⟩:=cy3 a0
 obtain ⟨Ap,Aq,Ar⟩:=cy3 a1
 have Au:=rrV C4 R hb
 refine wp_region_quiet_below (by first | assumption | kernel_rfl) (by kernel_rfl) ?_
 repeat (quiet_step (first | (with_reducible exact Au.out _ _)))
 refine wpQuiet_nil ?_
 intro w1 hw'
 obtain ⟨hk,hb⟩:=zQ hb hw'
 replace Aa:=zC hk Aa
 replace Ab:=zC hk Ab
 replace Ac:=zC hk Ac
 clear Ad Ae Af Ag Ah Ai
 replace a0:=zB hk a0
 replace a1:=zB hk a1
 obtain ⟨Ad,Ae,Af⟩:=ce3 a0
 obtain ⟨Ag,Ah,Ai⟩:=ce3 a1
 clear Au Aj Ak Al Am An Ao Ap Aq Ar
 clear hk hw'
 go_wp2
 first | go_ret | go_ret2 | go_ret3
 exact ⟨rfl,hb⟩
theorem parallel_any (a b c x y z:Rat) (r1:RL a 200) (r2:RL b 200) (r3:RL c 200) (r4:RL x 200) (r5:RL y 200) (r6:RL z 200) (r7:RL b 10000) (r8:RL z 10000) (r9:RL c 10000) (r10:RL y 10000) (r11:RL (b*z) 10000) (r12:RL (c*y) 10000) (r13:RL x 10000) (r14:RL a 10000) (r15:RL (c*x) 10000) (r16:RL (a*z) 10000) (r17:RL (a*y) 10000) (r18:RL (b*x) 10000) (w:World) (R:EnvV w) :
   Calls Tryz.prog 44 #[.agg #[.string (ratB a),.string (ratB b),.string (ratB c)],.agg #[.string (ratB x),.string (ratB y),.string (ratB z)]] w (Ret w (.tuple #[.bool (decide (((b*z) - (c*y))=0∧((c*x) - (a*z))=0∧((a*y) - (b*x))=0)),.int .i64 0])):=by
 by_cases z0:((b*z) - (c*y))=0
 · skip
   by_cases z1:((c*x) - (a*z))=0
   · skip
     by_cases z2:((a*y) - (b*x))=0
     · skip
       rw [show decide (((b*z) - (c*y))=0∧((c*x) - (a*z))=0∧((a*y) - (b*x))=0)=true from decide_eq_true ⟨z0,z1,z2⟩]
       exact parallel_3 a b c x y z z0 z1 z2 r1 r2 r3 r4 r5 r6 r7 r8 r9 r10 r11 r12 r13 r14 r15 r16 r17 r18 w R
     · rw [show decide (((b*z) - (c*y))=0∧((c*x) - (a*z))=0∧((a*y) - (b*x))=0)=false from decide_eq_false (fun h=>z2 h.2.2)]
       exact parallel_2 a b c x y z z0 z1 z2 r1 r2 r3 r4 r5 r6 r7 r8 r9 r10 r11 r12 r13 r14 r15 r16 r17 r18 w R
   · rw [show decide (((b*z) - (c*y))=0∧((c*x) - (a*z))=0∧((a*y) - (b*x))=0)=false from decide_eq_false (fun h=>z1 h.2.1)]
     exact parallel_1 a b c x y z z0 z1 r1 r2 r3 r4 r5 r6 r7 r8 r9 r10 r11 r12 r13 r14 r15 r16 r17 r18 w R
 · rw [show decide (((b*z) - (c*y))=0∧((c*x) - (a*z))=0∧((a*y) - (b*x))=0)=false from decide_eq_false (fun h=>z0 h.1)]
   exact parallel_0 a b c x y z z0 r1 r2 r3 r4 r5 r6 r7 r8 r9 r10 r11 r12 r13 r14 r15 r16 r17 r18 w R
def primD (x y z:Rat):Nat:=Nat.gcd (Nat.gcd x.num.natAbs y.num.natAbs) z.num.natAbs
def primM (x y z:Rat):Nat:=Nat.lcm (Nat.lcm x.den y.den) z.den
def primF (x y z:Rat):Rat:=Rat.divInt (primM x y z:Int) (primD x y z:Int)
theorem primM_pos (x y z:Rat):0 < primM x y z:=Nat.lcm_pos (Nat.lcm_pos x.den_pos y.den_pos) z.den_pos
theorem primD_pos (x y z:Rat) (h:x≠0∨y≠0∨z≠0):0 < primD x y z:=by
 have hx:∀ q:Rat,q≠0→0 < q.num.natAbs:=fun q hq=>Int.natAbs_pos.2 (mt Rat.num_eq_zero.1 hq)
 unfold primD
 rcases h with h | h | h
 · exact Nat.gcd_pos_of_pos_left _ (Nat.gcd_pos_of_pos_left _ (hx x h))
 · exact Nat.gcd_pos_of_pos_left _ (Nat.gcd_pos_of_pos_right _ (hx y h))
 · exact Nat.gcd_pos_of_pos_right _ (hx z h)
theorem primD_dvd (x y z:Rat):(primD x y z:Int) ∣ x.num∧(primD x y z:Int) ∣ y.num∧(primD x y z:Int) ∣ z.num:=by
 unfold primD
 refine ⟨?_,?_,?_⟩
 · exact Int.ofNat_dvd_left.2 (Nat.dvd_trans (Nat.gcd_dvd_left ..) (Nat.gcd_dvd_left ..))
 · exact Int.ofNat_dvd_left.2 (Nat.dvd_trans (Nat.gcd_dvd_left ..) (Nat.gcd_dvd_right ..))
 · exact Int.ofNat_dvd_left.2 (Nat.gcd_dvd_right ..)
theorem primM_dvd (x y z:Rat):x.den ∣ primM x y z∧y.den ∣ primM x y z∧z.den ∣ primM x y z:=by
 unfold primM
 exact ⟨Nat.dvd_trans (Nat.dvd_lcm_left ..) (Nat.dvd_lcm_left ..),Nat.dvd_trans (Nat.dvd_lcm_right ..) (Nat.dvd_lcm_left ..),Nat.dvd_lcm_right ..⟩
theorem prim_int (q:Rat) (M D:Nat) (_hD:0 < D) (h1:(D:Int) ∣ q.num) (h2:q.den ∣ M) :
   q*Rat.divInt (M:Int) (D:Int)=((q.num / D*((M / q.den:Nat):Int):Int):Rat):=by
 obtain ⟨a,ha⟩:=h1
 obtain ⟨b,hb⟩:=h2
 have hq:q=Rat.divInt q.num q.den:=(Rat.num_divInt_den q).symm
 have hdp:=q.den_pos
 have e1:q.num / (D:Int)=a:=by rw [ha];exact Int.mul_ediv_cancel_left _ (by omega)
 have e2:M / q.den=b:=by rw [hb];exact Nat.mul_div_cancel_left _ hdp
 rw [e1,e2]
 generalize hn:q.num=n at *
 generalize hd:q.den=d at *
 subst ha hb
 rw [hq,Rat.divInt_mul_divInt,← divInt_one]
 rw [Rat.divInt_eq_divInt_iff (by have:(0:Int) < d*D:=Int.mul_pos (by omega) (by omega);omega) (by decide)]
 push_cast
 grind
theorem prim_share (A:Int) (k:Nat) (_hk:0 < k) (h:((A:Rat)*Rat.divInt 1 (k:Int)).den=1):(k:Int) ∣ A:=by
 have e:(A:Rat)*Rat.divInt 1 (k:Int)=Rat.divInt A k:=by
   rw [← divInt_one,Rat.divInt_mul_divInt];simp
 rw [e] at h
 have h3:Rat.divInt A k=(((Rat.divInt A k).num:Int):Rat):=by
   apply Rat.ext
   · rfl
   · exact h
 rw [← divInt_one,Rat.divInt_eq_divInt_iff (by omega) (by decide)] at h3
 rw [Int.mul_one] at h3
 exact ⟨_,h3.trans (Int.mul_comm _ _)⟩
theorem least_div (k:Nat) (hk:2≤k):∃ q,2≤q∧q ∣ k∧∀ a b:Nat,q ∣ a*b→q ∣ a∨q ∣ b:=by
 have:∃ q,(2≤q∧q ∣ k)∧∀ r,r < q→¬ (2≤r∧r ∣ k):=by
   have wf:∀ n,(2≤n∧n ∣ k)→∃ q,(2≤q∧q ∣ k)∧∀ r,r < q→¬ (2≤r∧r ∣ k):=by
     intro n
     induction n using Nat.strongRecOn with
     | _ n ih =>
       intro hn
       by_cases h:∃ r,r < n∧(2≤r∧r ∣ k)
       · obtain ⟨r,hr,h2⟩:=h;exact ih r hr h2
       · exact ⟨n,hn,fun r hr h2=>h ⟨r,hr,h2⟩⟩
   exact wf k ⟨hk,Nat.dvd_refl k⟩
 obtain ⟨q,⟨h2,hd⟩,hmin⟩:=this
 refine ⟨q,h2,hd,fun a b hab=>?_⟩
 by_cases hg:Nat.gcd q a=1
 · exact Or.inr (Nat.Coprime.dvd_of_dvd_mul_left hg hab)
 · left
   have hgq:Nat.gcd q a ∣ q:=Nat.gcd_dvd_left ..
   have hpos:0 < Nat.gcd q a:=Nat.gcd_pos_of_pos_left _ (by omega)
   have hle:Nat.gcd q a≤q:=Nat.le_of_dvd (by omega) hgq
   have:¬ Nat.gcd q a < q:=fun hlt=>hmin _ hlt ⟨by omega,Nat.dvd_trans hgq hd⟩
   have e:Nat.gcd q a=q:=by omega
   rw [← e];exact Nat.gcd_dvd_right ..
theorem prim_no (x y z:Rat) (h:x≠0∨y≠0∨z≠0) (k:Nat) (hk:2≤k)
   (hx:(x*primF x y z*Rat.divInt 1 (k:Int)).den=1) (hy:(y*primF x y z*Rat.divInt 1 (k:Int)).den=1) (hz:(z*primF x y z*Rat.divInt 1 (k:Int)).den=1):False:=by
 have hD:=primD_pos x y z h
 have hM:=primM_pos x y z
 obtain ⟨d1,d2,d3⟩:=primD_dvd x y z
 obtain ⟨m1,m2,m3⟩:=primM_dvd x y z
 obtain ⟨q,q2,qk,qp⟩:=least_div k hk
 have key:∀ t:Rat,(primD x y z:Int) ∣ t.num→t.den ∣ primM x y z→(t*primF x y z*Rat.divInt 1 (k:Int)).den=1→q ∣ (t.num / (primD x y z:Int)).natAbs∨q ∣ primM x y z / t.den:=by
   intro t h1 h2 h3
   unfold primF at h3
   rw [prim_int t _ _ hD h1 h2] at h3
   have h4:=prim_share _ k (by omega) h3
   have h5:k ∣ (t.num / (primD x y z:Int)*((primM x y z / t.den:Nat):Int)).natAbs:=Int.ofNat_dvd_left.1 h4
   rw [Int.natAbs_mul,Int.natAbs_natCast] at h5
   exact qp _ _ (Nat.dvd_trans qk h5)
 have kx:=key x d1 m1 hx
 have ky:=key y d2 m2 hy
 have kz:=key z d3 m3 hz
 -- where q divides the quotient of the multiple, and where it does not
 have no:∀ t:Rat,(primD x y z:Int) ∣ t.num→q ∣ t.den→q ∣ (t.num / (primD x y z:Int)).natAbs→False:=by
   intro t h1 h2 h3
   have h4:q ∣ t.num.natAbs:=by
     have e:t.num.natAbs=primD x y z*(t.num / (primD x y z:Int)).natAbs:=by
       have:=Int.mul_ediv_cancel' h1
       conv=>lhs;rw [← this]
       rw [Int.natAbs_mul,Int.natAbs_natCast]
     rw [e];exact Nat.dvd_mul_left_of_dvd h3 _
   have h5:q ∣ Nat.gcd t.num.natAbs t.den:=Nat.dvd_gcd h4 h2
   rw [t.reduced] at h5
   have:=Nat.le_of_dvd (by decide) h5
   omega
 have up:∀ t:Rat,t.den ∣ primM x y z→q ∣ primM x y z / t.den→q ∣ primM x y z∧t.den ∣ primM x y z / q:=by
   intro t h1 ⟨c,hc⟩
   obtain ⟨b,hb⟩:=h1
   have hb2:primM x y z / t.den=b:=by rw [hb];exact Nat.mul_div_cancel_left _ t.den_pos
   rw [hb2] at hc
   subst hc
   refine ⟨⟨t.den*c,by rw [hb];ac_rfl⟩,⟨c,?_⟩⟩
   rw [hb,show t.den*(q*c)=q*(t.den*c) by ac_rfl,Nat.mul_div_cancel_left _ (by omega)]
 -- all three: then a smaller multiple
 have alldvd:(q ∣ primM x y z / x.den)→(q ∣ primM x y z / y.den)→(q ∣ primM x y z / z.den)→False:=by
   intro a b c
   obtain ⟨e0,e1⟩:=up x m1 a
   obtain ⟨_,e2⟩:=up y m2 b
   obtain ⟨_,e3⟩:=up z m3 c
   have:primM x y z ∣ primM x y z / q:=by
     conv=>lhs;unfold primM
     exact Nat.lcm_dvd (Nat.lcm_dvd e1 e2) e3
   have h6:=Nat.le_of_dvd (Nat.div_pos (Nat.le_of_dvd hM e0) (by omega)) this
   have h7:=Nat.div_lt_self hM q2
   omega
 have alldvd2:q ∣ (x.num / (primD x y z:Int)).natAbs→q ∣ (y.num / (primD x y z:Int)).natAbs→q ∣ (z.num / (primD x y z:Int)).natAbs→False:=by
   intro a b c
   have e:∀ t:Rat,(primD x y z:Int) ∣ t.num→q ∣ (t.num / (primD x y z:Int)).natAbs→primD x y z*q ∣ t.num.natAbs:=by
     intro t h1 h3
     have e:t.num.natAbs=primD x y z*(t.num / (primD x y z:Int)).natAbs:=by
       have:=Int.mul_ediv_cancel' h1
       conv=>lhs;rw [← this]
       rw [Int.natAbs_mul,Int.natAbs_natCast]
     rw [e];exact Nat.mul_dvd_mul_left _ h3
   have:primD x y z*q ∣ primD x y z:=by
     conv=>rhs;unfold primD
     exact Nat.dvd_gcd (Nat.dvd_gcd (e x d1 a) (e y d2 b)) (e z d3 c)
   have h6:=Nat.le_of_dvd hD this
   have:primD x y z*2≤primD x y z*q:=Nat.mul_le_mul_left _ q2
   omega
 -- one whose denominator keeps q
 have some:q ∣ primM x y z→∃ t,(t=x∨t=y∨t=z)∧¬ q ∣ primM x y z / t.den:=by
   intro _
   by_cases a:q ∣ primM x y z / x.den
   · by_cases b:q ∣ primM x y z / y.den
     · by_cases c:q ∣ primM x y z / z.den
       · exact (alldvd a b c).elim
       · exact ⟨z,by simp,c⟩
     · exact ⟨y,by simp,b⟩
   · exact ⟨x,by simp,a⟩
 have hqM:q ∣ primM x y z:=by
   by_cases a:q ∣ (x.num / (primD x y z:Int)).natAbs
   · by_cases b:q ∣ (y.num / (primD x y z:Int)).natAbs
     · by_cases c:q ∣ (z.num / (primD x y z:Int)).natAbs
       · exact (alldvd2 a b c).elim
       · exact (up z m3 (kz.resolve_left c)).1
     · exact (up y m2 (ky.resolve_left b)).1
   · exact (up x m1 (kx.resolve_left a)).1
 obtain ⟨t,ht,hn⟩:=some hqM
 have hdt:(primD x y z:Int) ∣ t.num∧t.den ∣ primM x y z∧(q ∣ (t.num / (primD x y z:Int)).natAbs∨q ∣ primM x y z / t.den):=by
   rcases ht with rfl | rfl | rfl
   · exact ⟨d1,m1,kx⟩
   · exact ⟨d2,m2,ky⟩
   · exact ⟨d3,m3,kz⟩
 obtain ⟨g1,g2,g3⟩:=hdt
 have h8:=g3.resolve_right hn
 refine no t g1 ?_ h8
 obtain ⟨b,hb⟩:=g2
 have hb2:primM x y z / t.den=b:=by rw [hb];exact Nat.mul_div_cancel_left _ t.den_pos
 rw [hb2] at hn
 have:=qp t.den b (by rw [← hb];exact hqM)
 exact this.resolve_right hn
theorem prim_pos (x y z:Rat) (h:x≠0∨y≠0∨z≠0):0 < primF x y z:=by
 unfold primF
 have h1:=primM_pos x y z
 have h2:=primD_pos x y z h
 rw [Rat.divInt_eq_div]
 rw [Rat.div_def]
 exact Rat.mul_pos (by exact_mod_cast h1) (Rat.inv_pos.2 (by exact_mod_cast h2))
theorem RN.up {q:Rat} {n d N D:Nat} (h:RN q n d) (h1:n≤N) (h2:d≤D):RN q N D:=⟨Nat.le_trans h.1 h1,Nat.le_trans h.2 h2⟩
theorem gcd_small (a b N:Nat) (ha:a < N) (hb:b < N):Nat.gcd a b < N:=by
 by_cases h:a=0
 · subst h;rw [Nat.gcd_zero_left];exact hb
 · exact Nat.lt_of_le_of_lt (Nat.gcd_le_left _ (by omega)) ha
theorem dlen_gcd2 (a b K:Nat) (hK:0 < K) (ha:dlen (a:Int)≤K) (hb:dlen (b:Int)≤K):dlen ((Nat.gcd a b:Nat):Int)≤K:=
 dlen_le _ K hK (gcd_small a b _ (by have:=dlen_lt _ K ha;rwa [Int.natAbs_natCast] at this) (by have:=dlen_lt _ K hb;rwa [Int.natAbs_natCast] at this))
theorem dlen_lcm (a b K M:Nat) (_hK:0 < K) (ha0:0 < a) (hb0:0 < b) (ha:dlen (a:Int)≤K) (hb:dlen (b:Int)≤M):dlen ((Nat.lcm a b:Nat):Int)≤K+M:=by
 have h1:=dlen_mul (a:Int) (b:Int) K M (by omega) ha hb
 have h2:Nat.lcm a b≤a*b:=Nat.le_of_dvd (Nat.mul_pos ha0 hb0) (Nat.lcm_dvd (Nat.dvd_mul_right ..) (Nat.dvd_mul_left ..))
 have h3:=dlen_lt _ _ h1
 rw [← Int.natCast_mul,Int.natAbs_natCast] at h3
 exact dlen_le _ _ (by omega) (by rw [Int.natAbs_natCast];omega)
theorem dlen_abs (n:Int):dlen (n.natAbs:Int)=dlen n:=by unfold dlen;rw [Int.natAbs_natCast]
theorem RN_prim {a b c:Rat} {n d:Nat} (nz:a≠0∨b≠0∨c≠0) (hn:0 < n) (hd:0 < d) (ha:RN a n d) (hb:RN b n d) (hc:RN c n d):RN (primF a b c) (d+d+d) n:=by
 have h1:=primD_pos a b c nz
 refine RN_mk _ _ _ _ (by omega) hn (by omega) ?_ ?_
 · exact dlen_lcm _ _ _ _ (by omega) (Nat.lcm_pos a.den_pos b.den_pos) c.den_pos (dlen_lcm _ _ _ _ hd a.den_pos b.den_pos ha.2 hb.2) hc.2
 · exact dlen_gcd2 _ _ _ hn (dlen_gcd2 _ _ _ hn (by rw [dlen_abs];exact ha.1) (by rw [dlen_abs];exact hb.1)) (by rw [dlen_abs];exact hc.1)
theorem lcm_step (m d:Nat):(m:Int)*((d / Nat.gcd m d:Nat):Int)=((Nat.lcm m d:Nat):Int):=by
 rw [← Int.natCast_mul]
 congr 1
 unfold Nat.lcm
 exact (Nat.mul_div_assoc _ (Nat.gcd_dvd_right ..)).symm
theorem i_gcd (x y:Nat) (hx:dlen (x:Int)≤40000) (hy:dlen (y:Int)≤40000) (w:World) (E:Env w) :
   Calls Tryz.prog 75 #[.string (itoaB (x:Int)),.string (itoaB (y:Int))] w (Ret w (.string (itoaB ((Nat.gcd x y:Nat):Int)))):=by
 have:=gcd_any (x:Int) (y:Int) w E hx hy
 rwa [Int.natAbs_natCast,Int.natAbs_natCast] at this
theorem i_gcdn (x:Nat) (y:Int) (hx:dlen (x:Int)≤40000) (hy:dlen y≤40000) (w:World) (E:Env w) :
   Calls Tryz.prog 75 #[.string (itoaB (x:Int)),.string (itoaB y)] w (Ret w (.string (itoaB ((Nat.gcd x y.natAbs:Nat):Int)))):=by
 have:=gcd_any (x:Int) y w E hx hy
 rwa [Int.natAbs_natCast] at this
theorem i_div (d g:Nat) (_hg:0 < g) (hd:dlen (d:Int)≤40000) (hgl:dlen (g:Int)≤40000) (w:World) (E:Env w) :
   Calls Tryz.prog 126 #[.string (itoaB (d:Int)),.string (itoaB (g:Int))] w (Ret w (.tuple #[.string (itoaB ((d / g:Nat):Int)),.string (itoaB ((d:Int) % (g:Int))),.int .i64 0])):=by
 have:=divMod_any (d:Int) (g:Int) w E hd hgl (by omega)
 rwa [← Int.natCast_ediv] at this
theorem i_mul (m d:Nat) (hm:dlen (m:Int)≤40000) (hd:dlen ((d / Nat.gcd m d:Nat):Int)≤40000) (w:World) (E:Env w) :
   Calls Tryz.prog 97 #[.string (itoaB (m:Int)),.string (itoaB ((d / Nat.gcd m d:Nat):Int))] w (Ret w (.string (itoaB ((Nat.lcm m d:Nat):Int)))):=by
 have:=mul_any (m:Int) ((d / Nat.gcd m d:Nat):Int) w E hm hd
 rwa [lcm_step] at this
theorem dlen_quot (d g K:Nat) (hK:0 < K) (hd:dlen (d:Int)≤K):dlen ((d / g:Nat):Int)≤K:=
 dlen_le _ K hK (by have:=dlen_lt _ K hd;rw [Int.natAbs_natCast] at this ⊢;exact Nat.lt_of_le_of_lt (Nat.div_le_self ..) this)
theorem it_0 : itoaB ((0:Nat):Int)=⟨#[48]⟩:=by decide +kernel
theorem it_1 : itoaB ((1:Nat):Int)=⟨#[49]⟩:=by decide +kernel
def g3 (X Y Z:Int):Nat:=Nat.gcd (Nat.gcd X.natAbs Y.natAbs) Z.natAbs
theorem g3_dvd (X Y Z:Int):(g3 X Y Z:Int) ∣ X∧(g3 X Y Z:Int) ∣ Y∧(g3 X Y Z:Int) ∣ Z:=by
 unfold g3
 exact ⟨Int.ofNat_dvd_left.2 (Nat.dvd_trans (Nat.gcd_dvd_left ..) (Nat.gcd_dvd_left ..)),Int.ofNat_dvd_left.2 (Nat.dvd_trans (Nat.gcd_dvd_left ..) (Nat.gcd_dvd_right ..)),Int.ofNat_dvd_left.2 (Nat.gcd_dvd_right ..)⟩
theorem g3_pos (X Y Z:Int) (h:X≠0∨Y≠0∨Z≠0):0 < g3 X Y Z:=by
 unfold g3
 rcases h with h | h | h
 · exact Nat.gcd_pos_of_pos_left _ (Nat.gcd_pos_of_pos_left _ (Int.natAbs_pos.2 h))
 · exact Nat.gcd_pos_of_pos_left _ (Nat.gcd_pos_of_pos_right _ (Int.natAbs_pos.2 h))
 · exact Nat.gcd_pos_of_pos_right _ (Int.natAbs_pos.2 h)
theorem g3_greatest (X Y Z:Int) (n:Nat) (h1:(n:Int) ∣ X) (h2:(n:Int) ∣ Y) (h3:(n:Int) ∣ Z):n ∣ g3 X Y Z:=by
 unfold g3
 exact Nat.dvd_gcd (Nat.dvd_gcd (Int.ofNat_dvd_left.1 h1) (Int.ofNat_dvd_left.1 h2)) (Int.ofNat_dvd_left.1 h3)
theorem den_part3 (p:Rat) (g:Nat) (hp:p.den=1) (hg:0 < g) (hd:g ∣ p.num.natAbs):(p*Rat.divInt 1 (g:Int)).den=1:=by
 obtain ⟨m,hm⟩:=Int.ofNat_dvd_left.2 hd
 have e:p=Rat.divInt p.num 1:=by have:=Rat.num_divInt_den p;rw [hp] at this;exact this.symm
 rw [e,hm,Rat.divInt_mul_divInt]
 have h2:Rat.divInt ((g:Int)*m*1) (1*(g:Int))=Rat.divInt m 1:=by
   rw [Int.mul_one,Int.one_mul,Int.mul_comm (g:Int) m]
   have:=Rat.divInt_mul_right (n:=m) (d:=1) (a:=(g:Int)) (by omega)
   rwa [Int.one_mul] at this
 rw [h2]
 have h3:=(mk_parts m 1 (by decide)).2
 rw [show (1:Int).natAbs=1 from rfl,Nat.gcd_one_right] at h3
 have h4:((Rat.divInt m 1).den:Int)=1:=h3.trans (by decide)
 omega
theorem prim_den3 (a b c:Rat) (h:a≠0∨b≠0∨c≠0):(a*primF a b c).den=1∧(b*primF a b c).den=1∧(c*primF a b c).den=1:=by
 have hD:=primD_pos a b c h
 obtain ⟨d1,d2,d3⟩:=primD_dvd a b c
 obtain ⟨m1,m2,m3⟩:=primM_dvd a b c
 unfold primF
 rw [prim_int a _ _ hD d1 m1,prim_int b _ _ hD d2 m2,prim_int c _ _ hD d3 m3]
 exact ⟨rfl,rfl,rfl⟩
theorem prim_g3 (a b c:Rat) (h:a≠0∨b≠0∨c≠0):g3 (a*primF a b c).num (b*primF a b c).num (c*primF a b c).num=1:=by
 obtain ⟨d1,d2,d3⟩:=prim_den3 a b c h
 have hF:=prim_pos a b c h
 have hF0:primF a b c≠0:=fun k=>by rw [k] at hF;exact absurd hF (by decide)
 obtain ⟨k1,k2,k3⟩:=g3_dvd (a*primF a b c).num (b*primF a b c).num (c*primF a b c).num
 have hp:0 < g3 (a*primF a b c).num (b*primF a b c).num (c*primF a b c).num:=by
   refine g3_pos _ _ _ ?_
   have z:∀ q:Rat,q≠0→(q*primF a b c).num≠0:=fun q hq k=>(Rat.mul_eq_zero.1 (Rat.num_eq_zero.1 k)).elim hq hF0
   rcases h with h | h | h
   · exact Or.inl (z _ h)
   · exact Or.inr (Or.inl (z _ h))
   · exact Or.inr (Or.inr (z _ h))
 obtain ⟨g,hg⟩:∃ g,g3 (a*primF a b c).num (b*primF a b c).num (c*primF a b c).num=g:=⟨_,rfl⟩
 rw [hg] at k1 k2 k3 hp ⊢
 by_cases h1:g=1
 · exact h1
 · exact (prim_no a b c h g (by omega) (den_part3 _ g d1 hp (Int.ofNat_dvd_left.1 k1)) (den_part3 _ g d2 hp (Int.ofNat_dvd_left.1 k2)) (den_part3 _ g d3 hp (Int.ofNat_dvd_left.1 k3))).elim
theorem rat_of_den1 (p:Rat) (h:p.den=1):p=(p.num:Rat):=by
 have:=Rat.num_divInt_den p
 rw [h] at this
 rw [Rat.divInt_eq_div] at this
 grind
theorem part_dvd (t:Rat) (p X:Int) (h:(p:Rat)*t=(X:Rat)):(t.den:Int) ∣ p∧p*t.num=X*t.den:=by
 have ht:t*(t.den:Rat)=(t.num:Rat):=by
   have h1:=Rat.num_divInt_den t
   rw [Rat.divInt_eq_div] at h1
   have h2:((t.den:Int):Rat)≠0:=by exact_mod_cast t.den_nz
   have h3:(((t.den:Int)):Rat)=(t.den:Rat):=rfl
   rw [h3] at h1 h2
   grind
 have e:((p*t.num:Int):Rat)=((X*(t.den:Int):Int):Rat):=by
   rw [Rat.intCast_mul,Rat.intCast_mul,← h,← ht]
   have h3:(((t.den:Int)):Rat)=(t.den:Rat):=rfl
   rw [h3];grind
 have e2:p*t.num=X*t.den:=by exact_mod_cast e
 refine ⟨?_,e2⟩
 have hc:Nat.Coprime t.num.natAbs t.den:=t.reduced
 have hd:(t.den:Int) ∣ p*t.num:=⟨X,by rw [e2,Int.mul_comm]⟩
 have:t.den ∣ p.natAbs*t.num.natAbs:=by rw [← Int.natAbs_mul];exact Int.ofNat_dvd_left.1 hd
 exact Int.ofNat_dvd_left.2 ((Nat.Coprime.dvd_of_dvd_mul_right (Nat.Coprime.symm hc) this))
theorem prim_ints (a b c k:Rat) (X Y Z:Int) (hk:0 < k) (ha:a=k*X) (hb:b=k*Y) (hc:c=k*Z) (h:X≠0∨Y≠0∨Z≠0) :
   a*primF a b c=((X / (g3 X Y Z:Int):Int):Rat)∧b*primF a b c=((Y / (g3 X Y Z:Int):Int):Rat)∧c*primF a b c=((Z / (g3 X Y Z:Int):Int):Rat):=by
 have k0:k≠0:=fun e=>by rw [e] at hk;exact absurd hk (by decide)
 have zz:∀ (q:Rat) (V:Int),q=k*V→V≠0→q≠0:=fun q V e hV hq=>by
   rw [e] at hq
   exact (Rat.mul_eq_zero.1 hq).elim k0 (fun z=>hV (by exact_mod_cast z))
 have hn:a≠0∨b≠0∨c≠0:=by
   rcases h with h | h | h
   · exact Or.inl (zz a X ha h)
   · exact Or.inr (Or.inl (zz b Y hb h))
   · exact Or.inr (Or.inr (zz c Z hc h))
 have hF:=prim_pos a b c hn
 have hG:=prim_g3 a b c hn
 obtain ⟨d1,d2,d3⟩:=prim_den3 a b c hn
 have r1:=rat_of_den1 _ d1
 have r2:=rat_of_den1 _ d2
 have r3:=rat_of_den1 _ d3
 obtain ⟨p,hp⟩:∃ p,(a*primF a b c).num=p:=⟨_,rfl⟩
 obtain ⟨q,hq⟩:∃ q,(b*primF a b c).num=q:=⟨_,rfl⟩
 obtain ⟨r,hr⟩:∃ r,(c*primF a b c).num=r:=⟨_,rfl⟩
 obtain ⟨F,hFF⟩:∃ F,primF a b c=F:=⟨_,rfl⟩
 rw [hp] at r1;rw [hq] at r2;rw [hr] at r3
 rw [hp,hq,hr] at hG
 rw [hFF] at r1 r2 r3 hF ⊢
 have hkF:0 < k*F:=Rat.mul_pos hk hF
 have hkF0:k*F≠0:=fun e=>by rw [e] at hkF;exact absurd hkF (by decide)
 obtain ⟨t,ht⟩:∃ t,(k*F)⁻¹=t:=⟨_,rfl⟩
 have htp:0 < t:=by rw [← ht];exact Rat.inv_pos.2 hkF
 have htm:k*F*t=1:=by rw [← ht];exact Rat.mul_inv_cancel _ hkF0
 have e1:(p:Rat)*t=(X:Rat):=by rw [← r1,ha];grind
 have e2:(q:Rat)*t=(Y:Rat):=by rw [← r2,hb];grind
 have e3:(r:Rat)*t=(Z:Rat):=by rw [← r3,hc];grind
 obtain ⟨v1,m1⟩:=part_dvd t p X e1
 obtain ⟨v2,m2⟩:=part_dvd t q Y e2
 obtain ⟨v3,m3⟩:=part_dvd t r Z e3
 have hden:t.den=1:=Nat.dvd_one.1 (hG ▸ g3_greatest p q r t.den v1 v2 v3)
 rw [hden] at m1 m2 m3
 rw [Int.natCast_one,Int.mul_one] at m1 m2 m3
 have hnum:0 < t.num:=by
   have h1:0≤t.num:=Rat.num_nonneg.2 (by grind)
   have h2:t.num≠0:=fun e=>by rw [Rat.num_eq_zero.1 e] at htp;exact absurd htp (by decide)
   omega
 obtain ⟨m,hm⟩:∃ m:Nat,t.num=(m:Int):=⟨t.num.toNat,by omega⟩
 rw [hm] at m1 m2 m3 hnum
 have hg:g3 X Y Z=m:=by
   rw [← m1,← m2,← m3]
   unfold g3 at hG ⊢
   rw [Int.natAbs_mul,Int.natAbs_mul,Int.natAbs_mul,Int.natAbs_natCast,Nat.gcd_mul_right,Nat.gcd_mul_right,hG,Nat.one_mul]
 have hm0:(m:Int)≠0:=by omega
 rw [hg,r1,r2,r3,← m1,← m2,← m3,Int.mul_ediv_cancel _ hm0,Int.mul_ediv_cancel _ hm0,Int.mul_ediv_cancel _ hm0]
 exact ⟨rfl,rfl,rfl⟩
def upQ (a b c:Rat):Prop:=0 < c∨c=0∧(b < 0∨b=0∧a < 0)
def upI (X Y Z:Int):Prop:=0 < Z∨Z=0∧(Y < 0∨Y=0∧X < 0)
instance decUpQ (a b c:Rat):Decidable (upQ a b c):=by unfold upQ;infer_instance
instance decUpI (X Y Z:Int):Decidable (upI X Y Z):=by unfold upI;infer_instance
def dnF (a b c:Rat):Rat:=@ite Rat (upQ a b c) (decUpQ a b c) (-primF a b c) (primF a b c)
def dnG (X Y Z:Int):Int:=@ite Int (upI X Y Z) (decUpI X Y Z) (-(g3 X Y Z:Int)) (g3 X Y Z:Int)
theorem sg_pos {k:Rat} (hk:0 < k) (V:Int):(0 < k*(V:Rat)↔0 < V)∧(k*(V:Rat)=0↔V=0)∧(k*(V:Rat) < 0↔V < 0):=by
 have k0:k≠0:=fun e=>by rw [e] at hk;exact absurd hk (by decide)
 have p:∀ U:Int,0 < U→0 < k*(U:Rat):=fun U h=>Rat.mul_pos hk (by exact_mod_cast h)
 have hz:V=0→k*(V:Rat)=0:=fun h=>by rw [h];exact Rat.mul_zero _
 have hn:V < 0→k*(V:Rat) < 0:=fun h=>by
   have h1:=p (-V) (by omega)
   rw [Rat.intCast_neg] at h1
   grind
 rcases Int.lt_trichotomy V 0 with h | h | h
 · have:=hn h;refine ⟨⟨fun g=>by grind,fun g=>by omega⟩,⟨fun g=>by grind,fun g=>by omega⟩,⟨fun _=>h,fun _=>this⟩⟩
 · have:=hz h;refine ⟨⟨fun g=>by grind,fun g=>by omega⟩,⟨fun _=>h,fun _=>this⟩,⟨fun g=>by grind,fun g=>by omega⟩⟩
 · have:=p V h;refine ⟨⟨fun _=>h,fun _=>this⟩,⟨fun g=>by grind,fun g=>by omega⟩,⟨fun g=>by grind,fun g=>by omega⟩⟩
theorem up_ints (a b c k:Rat) (X Y Z:Int) (hk:0 < k) (ha:a=k*X) (hb:b=k*Y) (hc:c=k*Z):upQ a b c↔upI X Y Z:=by
 obtain ⟨p1,p2,p3⟩:=sg_pos hk X
 obtain ⟨q1,q2,q3⟩:=sg_pos hk Y
 obtain ⟨r1,r2,r3⟩:=sg_pos hk Z
 unfold upQ upI
 rw [ha,hb,hc,r1,r2,q2,q3,p3]
theorem dn_ints (a b c k:Rat) (X Y Z:Int) (hk:0 < k) (ha:a=k*X) (hb:b=k*Y) (hc:c=k*Z) (h:X≠0∨Y≠0∨Z≠0) :
   a*dnF a b c=((X.tdiv (dnG X Y Z):Int):Rat)∧b*dnF a b c=((Y.tdiv (dnG X Y Z):Int):Rat)∧c*dnF a b c=((Z.tdiv (dnG X Y Z):Int):Rat):=by
 obtain ⟨e1,e2,e3⟩:=prim_ints a b c k X Y Z hk ha hb hc h
 obtain ⟨d1,d2,d3⟩:=g3_dvd X Y Z
 have hg:=g3_pos X Y Z h
 have td:∀ V:Int,(g3 X Y Z:Int) ∣ V→V.tdiv (g3 X Y Z:Int)=V / (g3 X Y Z:Int):=fun V hV=>Int.tdiv_eq_ediv_of_dvd hV
 have hu:=up_ints a b c k X Y Z hk ha hb hc
 unfold dnF dnG
 by_cases u:upI X Y Z
 · rw [if_pos u,if_pos (hu.2 u),Int.tdiv_neg,Int.tdiv_neg,Int.tdiv_neg,td X d1,td Y d2,td Z d3,Rat.intCast_neg,Rat.intCast_neg,Rat.intCast_neg,Rat.mul_neg,Rat.mul_neg,Rat.mul_neg,e1,e2,e3]
   exact ⟨rfl,rfl,rfl⟩
 · rw [if_neg u,if_neg (mt hu.1 u),td X d1,td Y d2,td Z d3,e1,e2,e3]
   exact ⟨rfl,rfl,rfl⟩
theorem primF_neg (a b c:Rat):primF (-a) (-b) (-c)=primF a b c:=by
 unfold primF primM primD
 rw [Rat.neg_num,Rat.neg_num,Rat.neg_num,Rat.neg_den,Rat.neg_den,Rat.neg_den,Int.natAbs_neg,Int.natAbs_neg,Int.natAbs_neg]
theorem dn_bound (X G:Int) (n:Nat) (h:X.natAbs≤n):(X.tdiv G).natAbs≤n:=by
 rw [Int.natAbs_tdiv];exact Nat.le_trans (Nat.div_le_self ..) h
end Go.Proofs.YtpiiclmkbplkhaaGreatDoor.Kl
