import Derived.Test.YtejfiegmdllfbaaGreatDoorKlAFallsQMid
import Derived.Test.YtejfiegmdllfbaaGreatDoorKlAFallsVM
import Derived.Test.YtejfiegmdllfbaaGreatDoorKlBAtFZ
namespace Go.Proofs.YtejfiegmdllfbaaGreatDoor.Kl
open Go Go.RowKit
set_option maxRecDepth 100000
set_option maxHeartbeats 8000000
theorem rat_of {s:ByteArray} (h:IsRat s.data.toList):∃ q:Rat,s=ratB q∧RL q 200:=by
 obtain ⟨q,e,hq⟩:=h
 refine ⟨q,?_,hq⟩
 unfold ratB strOf
 rw [← e]
theorem isRat_0 : IsRat (⟨#[48]⟩:ByteArray).data.toList:=(isRat_nos (l:=[48]) (by decide)).2 (by decide +kernel)
theorem check3_raw  (a b c:ByteArray) (v:Int) (h0:(IsRat a.data.toList∧IsRat b.data.toList∧IsRat c.data.toList)→v=0) (h2:¬ (IsRat a.data.toList∧IsRat b.data.toList∧IsRat c.data.toList)→v=2) (za:a.size≤100000) (zb:b.size≤100000) (zc:c.size≤100000) (w:World) (R:EnvV w) :
   Calls Tryz.prog 86 #[.agg #[.string a,.string b,.string c]] w (Ret w (.int .i64 v)):=by
 have c1:=fun (w:World) (R:EnvV w)=>numCheck3 a b c v h0 h2 za zb zc w R.toEnvR
 have C1:=Lib.hid c1
 clear c1 h0 h2 za zb zc
 have hb:=Below.refl w.heap.size w
 go_enter Tryz.func86,Tryz.ntmps86
 go_upto_region 1 with fail
 refine wp_alloc1 (fun w1 a0 hk=>?_)
 replace hb:=hb.trans (hk.mono hb.size)
 clear hk
 obtain ⟨Aa,Ab,Ac⟩:=ce3 a0
 go_wp2_with (go_at_call 114;with_reducible refine (zL hb (C1.out _ (R.below hb))).mono ?_;clear hb;rintro e w1 ⟨rfl,hk,hb⟩;clear Aa Ab Ac;replace a0:=zB hk a0;obtain ⟨Aa,Ab,Ac⟩:=ce3 a0;clear hk)
 first | go_ret | go_ret2 | go_ret3
 exact ⟨rfl,hb⟩
theorem check2_raw  (a b:ByteArray) (v:Int) (h0:(IsRat a.data.toList∧IsRat b.data.toList)→v=0) (h2:¬ (IsRat a.data.toList∧IsRat b.data.toList)→v=2) (za:a.size≤100000) (zb:b.size≤100000) (w:World) (R:EnvV w) :
   Calls Tryz.prog 77 #[.agg #[.string a,.string b]] w (Ret w (.int .i64 v)):=by
 have c1:=fun (w:World) (R:EnvV w)=>numCheck2 a b v h0 h2 za zb w R.toEnvR
 have C1:=Lib.hid c1
 clear c1 h0 h2 za zb
 have hb:=Below.refl w.heap.size w
 go_enter Tryz.func77,Tryz.ntmps77
 go_upto_region 1 with fail
 refine wp_alloc1 (fun w1 a0 hk=>?_)
 replace hb:=hb.trans (hk.mono hb.size)
 clear hk
 obtain ⟨Aa,Ab⟩:=ce2 a0
 go_wp2_with (go_at_call 114;with_reducible refine (zL hb (C1.out _ (R.below hb))).mono ?_;clear hb;rintro e w1 ⟨rfl,hk,hb⟩;clear Aa Ab;replace a0:=zB hk a0;obtain ⟨Aa,Ab⟩:=ce2 a0;clear hk)
 first | go_ret | go_ret2 | go_ret3
 exact ⟨rfl,hb⟩
theorem right02  (s:ByteArray) (r:Bool) (hr:r=true↔IsRat s.data.toList) (zs:s.size≤100000) (w:World) (R:EnvV w) :
   Calls Tryz.prog 55 #[.string s] w (Ret w (.bool r)):=by
 have c1:=fun (w:World) (R:EnvV w)=>refRRight_any s r hr zs w R.toEnvR
 have C1:=Lib.hid c1
 clear c1 hr zs
 have hb:=Below.refl w.heap.size w
 go_enter Tryz.func55,Tryz.ntmps55
 go_wp2_with (go_at_call 96;with_reducible refine (chVB hb R C1).mono ?_;clear hb;rintro e w1 ⟨rfl,hk,hb⟩;clear hk)
 first | go_ret | go_ret2 | go_ret3
 exact ⟨rfl,hb⟩
theorem rightL_w (blk n c:Nat) (ts:List ByteArray) (hn:ts.length=n) (hnb:n≤10) (r:Bool) (hr:r=true↔∀ t,t ∈ ts→IsRat t.data.toList) (w:World) (R:EnvV w)
   (hm:∀ t,t ∈ ts→t.size≤100000) (hc:∀ (j:Nat) (t:ByteArray),ts[j]? = some t→w.cell? ⟨blk,j,none⟩=some (.string t)) :
   Calls Tryz.prog 21 #[.slice (some ⟨blk,0,none⟩) n c] w (Ret w (.bool r)):=by
 have HC:=Lib.hid hc
 have HM:=Lib.hid hm
 have HR:=Lib.hid hr
 have HN:=Lib.hid hn
 clear hc hm hr hn
 go_enter Tryz.func21,Tryz.ntmps21
 go_wp2
 go_loopw [3] (fun i wr=>∃ k:Nat,k≤n∧i = .int .i64 k∧(∀ t,t ∈ ts.take k→IsRat t.data.toList)∧Below w.heap.size w wr) (fun i _=>n - (intOf i).toNat)
 case atStart=>exact ⟨0,Nat.zero_le _,rfl,by simp,Below.refl _ _⟩
 case round =>
   obtain ⟨k,hk,rfl,hall,hb⟩:=hrel
   have HA:=Lib.hid hall
   clear hall
   by_cases hlt:k < n
   · obtain ⟨t,ht⟩:∃ t,ts[k]? = some t:=⟨_,List.getElem?_eq_getElem (by rw [HN.out];exact hlt)⟩
     have x0:wr.cell? ⟨blk,k,none⟩=some (.string t):=zC hb (HC.out k t ht)
     have hmem:t ∈ ts:=List.mem_of_getElem? ht
     have hms:=HM.out t hmem
     have HMEM:=Lib.hid hmem
     have htk:∀ u,u ∈ ts.take (k+1)→u ∈ ts.take k∨u=t:=by
       intro u hu
       rw [List.take_add_one,ht] at hu
       rcases List.mem_append.1 hu with h | h
       · exact Or.inl h
       · exact Or.inr (by simpa using h)
     have HT:=Lib.hid htk
     clear hmem htk ht
     by_cases hi:IsRat t.data.toList
     · have CR:=Lib.hid (fun (w:World) (R:EnvV w)=>right02 t true ⟨fun _=>hi,fun _=>rfl⟩ hms w R)
       have HF:Hid (IsRat t.data.toList):=Lib.hid hi
       clear hi
       go_wp2_with (go_at_call 55;with_reducible refine (chVB hb R CR).mono ?_;clear hb;rintro e w1 ⟨rfl,hk2,hb⟩;clear hk2)
       go_roundw
       case rel=>exact ⟨k+1,by omega,by go_num,fun u hu=>(HT.out u hu).elim (HA.out u) (fun e=>e ▸ HF.out),hb⟩
       case measure=>simp [intOf];omega
     · have CR:=Lib.hid (fun (w:World) (R:EnvV w)=>right02 t false ⟨(fun h=>by cases h),fun h=>absurd h hi⟩ hms w R)
       have hf:r=false:=Bool.eq_false_iff.2 (fun h=>hi (HR.out.1 h t HMEM.out))
       clear hi
       go_wp2_with (go_at_call 55;with_reducible refine (chVB hb R CR).mono ?_;clear hb;rintro e w1 ⟨rfl,hk2,hb⟩;clear hk2)
       go_ret
       exact ⟨retBo hf.symm,hb⟩
   · have ek:k=n:=by omega
     have ht:r=true:=HR.out.2 (fun t ht=>HA.out t (by rw [List.take_of_length_le (by rw [HN.out];omega)];exact ht))
     go_wp2
     go_ret
     exact ⟨retBo ht.symm,hb⟩
theorem shortL_w (blk n c:Nat) (ts:List ByteArray) (hn:ts.length=n) (hnb:n≤10) (r:Bool) (hr:r=true↔∀ t,t ∈ ts→t.size≤24) (w:World)
   (hm:∀ t,t ∈ ts→t.size≤9223372036854775807) (hc:∀ (j:Nat) (t:ByteArray),ts[j]? = some t→w.cell? ⟨blk,j,none⟩=some (.string t)) :
   Calls Tryz.prog 12 #[.slice (some ⟨blk,0,none⟩) n c] w (Ret w (.bool r)):=by
 have HC:=Lib.hid hc
 have HM:=Lib.hid hm
 have HR:=Lib.hid hr
 have HN:=Lib.hid hn
 clear hc hm hr hn
 go_enter Tryz.func12,Tryz.ntmps12
 go_wp2
 go_loopw [3] (fun i wr=>∃ k:Nat,k≤n∧i = .int .i64 k∧(∀ t,t ∈ ts.take k→t.size≤24)∧Below w.heap.size w wr) (fun i _=>n - (intOf i).toNat)
 case atStart=>exact ⟨0,Nat.zero_le _,rfl,by simp,Below.refl _ _⟩
 case round =>
   obtain ⟨k,hk,rfl,hall,hb⟩:=hrel
   have HA:=Lib.hid hall
   clear hall
   by_cases hlt:k < n
   · obtain ⟨t,ht⟩:∃ t,ts[k]? = some t:=⟨_,List.getElem?_eq_getElem (by rw [HN.out];exact hlt)⟩
     have x0:wr.cell? ⟨blk,k,none⟩=some (.string t):=zC hb (HC.out k t ht)
     have hmem:t ∈ ts:=List.mem_of_getElem? ht
     have hms:=HM.out t hmem
     have HMEM:=Lib.hid hmem
     have htk:∀ u,u ∈ ts.take (k+1)→u ∈ ts.take k∨u=t:=by
       intro u hu
       rw [List.take_add_one,ht] at hu
       rcases List.mem_append.1 hu with h | h
       · exact Or.inl h
       · exact Or.inr (by simpa using h)
     have HT:=Lib.hid htk
     clear hmem htk ht
     by_cases hi:t.size≤24
     · have HF:=Lib.hid hi
       go_wp2
       go_roundw
       case rel=>exact ⟨k+1,by omega,by go_num,fun u hu=>(HT.out u hu).elim (HA.out u) (fun e=>e ▸ HF.out),hb⟩
       case measure=>simp [intOf];omega
     · have hf:r=false:=Bool.eq_false_iff.2 (fun h=>hi (HR.out.1 h t HMEM.out))
       have HF:=Lib.hid hf
       clear hf
       go_wp2
       go_ret
       exact ⟨retBo HF.out.symm,hb⟩
   · have ek:k=n:=by omega
     have ht:r=true:=HR.out.2 (fun t ht=>HA.out t (by rw [List.take_of_length_le (by rw [HN.out];omega)];exact ht))
     have HF:=Lib.hid ht
     clear ht
     go_wp2
     go_ret
     exact ⟨retBo HF.out.symm,hb⟩
set_option maxRecDepth 512 in
theorem right1 (s0:ByteArray) (r:Bool) (hr:r=true↔(IsRat s0.data.toList)) (z0:s0.size≤100000) (w:World) (R:EnvV w) :
   Calls Tryz.prog 21 #[.slice (some ⟨w.heap.size,0,none⟩) 1 1] (w.alloc (Obj.cells #[Value.string s0] 22)) (Ret w (.bool r)):=by
 have hba:Below w.heap.size w (w.alloc (Obj.cells #[Value.string s0] 22)):=(Below.refl _ _).alloc (Nat.le_refl _) _
 have he:(IsRat s0.data.toList)↔(∀ t,t ∈ [s0]→IsRat t.data.toList):=⟨fun h t ht=>by simp at ht;subst ht;exact h,fun h=>h s0 (by simp)⟩
 have hz:∀ t,t ∈ [s0]→t.size≤100000:=fun t ht=>by simp at ht;subst ht;exact z0
 refine (rightL_w w.heap.size 1 1 [s0] rfl (by decide) r (hr.trans he) _ (R.below hba) hz ?_).mono fun e w' h=>⟨h.1,hba.trans (h.2.mono hba.size)⟩
 intro j t h
 match j,h with
 | 0,h=>injection h with h;subst h;simp [go_sem]
 | j+1,h=>simp at h
set_option maxRecDepth 512 in
theorem right2 (s0 s1:ByteArray) (r:Bool) (hr:r=true↔(IsRat s0.data.toList∧IsRat s1.data.toList)) (z0:s0.size≤100000) (z1:s1.size≤100000) (w:World) (R:EnvV w) :
   Calls Tryz.prog 21 #[.slice (some ⟨w.heap.size,0,none⟩) 2 2] (w.alloc (Obj.cells #[Value.string s0,Value.string s1] 22)) (Ret w (.bool r)):=by
 have hba:Below w.heap.size w (w.alloc (Obj.cells #[Value.string s0,Value.string s1] 22)):=(Below.refl _ _).alloc (Nat.le_refl _) _
 have he:(IsRat s0.data.toList∧IsRat s1.data.toList)↔(∀ t,t ∈ [s0,s1]→IsRat t.data.toList):=by
   constructor
   · rintro ⟨h0,h1⟩ t h
     simp only [List.mem_cons,List.not_mem_nil,or_false] at h
     rcases h with rfl | rfl <;> assumption
   · intro h
     exact ⟨h s0 (by simp),h s1 (by simp)⟩
 have hz:∀ t,t ∈ [s0,s1]→t.size≤100000:=by
   intro t h
   simp only [List.mem_cons,List.not_mem_nil,or_false] at h
   rcases h with rfl | rfl <;> assumption
 refine (rightL_w w.heap.size 2 2 [s0,s1] rfl (by decide) r (hr.trans he) _ (R.below hba) hz ?_).mono fun e w' h=>⟨h.1,hba.trans (h.2.mono hba.size)⟩
 intro j t h
 match j,h with
 | 0,h=>injection h with h;subst h;simp [go_sem]
 | 1,h=>injection h with h;subst h;simp [go_sem]
 | j+2,h=>simp at h
set_option maxRecDepth 512 in
theorem right3 (s0 s1 s2:ByteArray) (r:Bool) (hr:r=true↔(IsRat s0.data.toList∧IsRat s1.data.toList∧IsRat s2.data.toList)) (z0:s0.size≤100000) (z1:s1.size≤100000) (z2:s2.size≤100000) (w:World) (R:EnvV w) :
   Calls Tryz.prog 21 #[.slice (some ⟨w.heap.size,0,none⟩) 3 3] (w.alloc (Obj.cells #[Value.string s0,Value.string s1,Value.string s2] 22)) (Ret w (.bool r)):=by
 have hba:Below w.heap.size w (w.alloc (Obj.cells #[Value.string s0,Value.string s1,Value.string s2] 22)):=(Below.refl _ _).alloc (Nat.le_refl _) _
 have he:(IsRat s0.data.toList∧IsRat s1.data.toList∧IsRat s2.data.toList)↔(∀ t,t ∈ [s0,s1,s2]→IsRat t.data.toList):=by
   constructor
   · rintro ⟨h0,h1,h2⟩ t h
     simp only [List.mem_cons,List.not_mem_nil,or_false] at h
     rcases h with rfl | rfl | rfl <;> assumption
   · intro h
     exact ⟨h s0 (by simp),h s1 (by simp),h s2 (by simp)⟩
 have hz:∀ t,t ∈ [s0,s1,s2]→t.size≤100000:=by
   intro t h
   simp only [List.mem_cons,List.not_mem_nil,or_false] at h
   rcases h with rfl | rfl | rfl <;> assumption
 refine (rightL_w w.heap.size 3 3 [s0,s1,s2] rfl (by decide) r (hr.trans he) _ (R.below hba) hz ?_).mono fun e w' h=>⟨h.1,hba.trans (h.2.mono hba.size)⟩
 intro j t h
 match j,h with
 | 0,h=>injection h with h;subst h;simp [go_sem]
 | 1,h=>injection h with h;subst h;simp [go_sem]
 | 2,h=>injection h with h;subst h;simp [go_sem]
 | j+3,h=>simp at h
set_option maxRecDepth 512 in
theorem short9 (s0 s1 s2 s3 s4 s5 s6 s7 s8:ByteArray) (r:Bool) (hr:r=true↔(s0.size≤24∧s1.size≤24∧s2.size≤24∧s3.size≤24∧s4.size≤24∧s5.size≤24∧s6.size≤24∧s7.size≤24∧s8.size≤24)) (z0:s0.size≤9223372036854775807) (z1:s1.size≤9223372036854775807) (z2:s2.size≤9223372036854775807) (z3:s3.size≤9223372036854775807) (z4:s4.size≤9223372036854775807) (z5:s5.size≤9223372036854775807) (z6:s6.size≤9223372036854775807) (z7:s7.size≤9223372036854775807) (z8:s8.size≤9223372036854775807) (w:World) (_R:EnvV w) :
   Calls Tryz.prog 12 #[.slice (some ⟨w.heap.size,0,none⟩) 9 9] (w.alloc (Obj.cells #[Value.string s0,Value.string s1,Value.string s2,Value.string s3,Value.string s4,Value.string s5,Value.string s6,Value.string s7,Value.string s8] 22)) (Ret w (.bool r)):=by
 have hba:Below w.heap.size w (w.alloc (Obj.cells #[Value.string s0,Value.string s1,Value.string s2,Value.string s3,Value.string s4,Value.string s5,Value.string s6,Value.string s7,Value.string s8] 22)):=(Below.refl _ _).alloc (Nat.le_refl _) _
 have he:(s0.size≤24∧s1.size≤24∧s2.size≤24∧s3.size≤24∧s4.size≤24∧s5.size≤24∧s6.size≤24∧s7.size≤24∧s8.size≤24)↔(∀ t,t ∈ [s0,s1,s2,s3,s4,s5,s6,s7,s8]→t.size≤24):=by
   constructor
   · rintro ⟨h0,h1,h2,h3,h4,h5,h6,h7,h8⟩ t h
     simp only [List.mem_cons,List.not_mem_nil,or_false] at h
     rcases h with rfl | rfl | rfl | rfl | rfl | rfl | rfl | rfl | rfl <;> assumption
   · intro h
     exact ⟨h s0 (by simp),h s1 (by simp),h s2 (by simp),h s3 (by simp),h s4 (by simp),h s5 (by simp),h s6 (by simp),h s7 (by simp),h s8 (by simp)⟩
 have hz:∀ t,t ∈ [s0,s1,s2,s3,s4,s5,s6,s7,s8]→t.size≤9223372036854775807:=by
   intro t h
   simp only [List.mem_cons,List.not_mem_nil,or_false] at h
   rcases h with rfl | rfl | rfl | rfl | rfl | rfl | rfl | rfl | rfl <;> assumption
 refine (shortL_w w.heap.size 9 9 [s0,s1,s2,s3,s4,s5,s6,s7,s8] rfl (by decide) r (hr.trans he) _ hz ?_).mono fun e w' h=>⟨h.1,hba.trans (h.2.mono hba.size)⟩
 intro j t h
 match j,h with
 | 0,h=>injection h with h;subst h;simp [go_sem]
 | 1,h=>injection h with h;subst h;simp [go_sem]
 | 2,h=>injection h with h;subst h;simp [go_sem]
 | 3,h=>injection h with h;subst h;simp [go_sem]
 | 4,h=>injection h with h;subst h;simp [go_sem]
 | 5,h=>injection h with h;subst h;simp [go_sem]
 | 6,h=>injection h with h;subst h;simp [go_sem]
 | 7,h=>injection h with h;subst h;simp [go_sem]
 | 8,h=>injection h with h;subst h;simp [go_sem]
 | j+9,h=>simp at h
def NErr (a b c:ByteArray) (v:Int):Prop:=(¬ (IsRat a.data.toList∧IsRat b.data.toList∧IsRat c.data.toList)∧v=2)∨((a=⟨#[48]⟩∧b=⟨#[48]⟩∧c=⟨#[48]⟩)∧v=17)
theorem NErr.ne {a b c:ByteArray} {v:Int} (h:NErr a b c v):v≠0:=by rcases h with ⟨_,rfl⟩ | ⟨_,rfl⟩ <;> decide
theorem ver_t (a b c:Rat) (q0:c=0) (w:World) (_R:EnvV w) :
   Calls Tryz.prog 47 #[.agg #[.string (ratB a),.string (ratB b),.string (ratB c)]] w (Ret w (.bool true)):=by
 have eq0:((ratB c).toList == [48])=true:=by rw [ratB_eq_zero];exact decide_eq_true q0
 have pq0:(ratB c).toList=[48]:=(zero_iff _).2 q0
 clear q0
 have hb:=Below.refl w.heap.size w
 go_enter Tryz.func47,Tryz.ntmps47
 go_upto_region 1 with fail
 refine wp_alloc1 (fun w1 a0 hk=>?_)
 replace hb:=hb.trans (hk.mono hb.size)
 clear hk
 obtain ⟨Aa,Ab,Ac⟩:=ce3 a0
 go_wp2
 first | go_ret | go_ret2 | go_ret3
 exact ⟨rfl,hb⟩
theorem zero_t (a b c:Rat) (q0:a=0) (q1:b=0) (q2:c=0) (w:World) (R:EnvV w) :
   Calls Tryz.prog 89 #[.agg #[.string (ratB a),.string (ratB b),.string (ratB c)]] w (Ret w (.bool true)):=by
 have c1:=hor_t a b c q0 q1
 have c2:=ver_t a b c q2
 obtain ⟨Ag,Aa⟩:∃ vq,ratB a=vq:=⟨_,rfl⟩
 obtain ⟨Ah,Ab⟩:∃ vq,ratB b=vq:=⟨_,rfl⟩
 obtain ⟨Ai,Ac⟩:∃ vq,ratB c=vq:=⟨_,rfl⟩
 try simp only [Aa,Ab,Ac] at c1 c2 ⊢
 have C1:=Lib.hid c1
 have C2:=Lib.hid c2
 clear c1 c2 Aa Ab Ac q0 q1 q2
 have hb:=Below.refl w.heap.size w
 go_enter Tryz.func89,Tryz.ntmps89
 go_upto_region 1 with fail
 refine wp_alloc1 (fun w1 a0 hk=>?_)
 replace hb:=hb.trans (hk.mono hb.size)
 clear hk
 obtain ⟨Ad,Ae,Af⟩:=ce3 a0
 go_wp2_with ((first | (go_at_call 46;with_reducible refine (chVB hb R C1).mono ?_) | (go_at_call 47;with_reducible refine (chVB hb R C2).mono ?_));clear hb;rintro e w1 ⟨rfl,hk,hb⟩;clear Ad Ae Af;replace a0:=zB hk a0;obtain ⟨Ad,Ae,Af⟩:=ce3 a0;clear hk)
 first | go_ret | go_ret2 | go_ret3
 exact ⟨rfl,hb⟩
theorem acheck_z (a b c:Rat) (q0:a=0) (q1:b=0) (q2:c=0) (ra:RL a 200) (rb:RL b 200) (rc:RL c 200) (w:World) (R:EnvV w) :
   Calls Tryz.prog 83 #[.agg #[.string (ratB a),.string (ratB b),.string (ratB c)]] w (Ret w (.int .i64 17)):=by
 have c1:=fun (w:World) (R:EnvV w)=>vcheck_ok a b c ra rb rc w R.toEnvR
 have c2:=zero_t a b c q0 q1 q2
 obtain ⟨Ag,Aa⟩:∃ vq,ratB a=vq:=⟨_,rfl⟩
 obtain ⟨Ah,Ab⟩:∃ vq,ratB b=vq:=⟨_,rfl⟩
 obtain ⟨Ai,Ac⟩:∃ vq,ratB c=vq:=⟨_,rfl⟩
 try simp only [Aa,Ab,Ac] at c1 c2 ⊢
 have C1:=Lib.hid c1
 have C2:=Lib.hid c2
 clear c1 c2 Aa Ab Ac q0 q1 q2 ra rb rc
 have hb:=Below.refl w.heap.size w
 go_enter Tryz.func83,Tryz.ntmps83
 go_upto_region 1 with fail
 refine wp_alloc1 (fun w1 a0 hk=>?_)
 replace hb:=hb.trans (hk.mono hb.size)
 clear hk
 obtain ⟨Ad,Ae,Af⟩:=ce3 a0
 go_wp2_with ((first | (go_at_call 86;with_reducible refine (chVB hb R C1).mono ?_) | (go_at_call 89;with_reducible refine (chVB hb R C2).mono ?_));clear hb;rintro e w1 ⟨rfl,hk,hb⟩;clear Ad Ae Af;replace a0:=zB hk a0;obtain ⟨Ad,Ae,Af⟩:=ce3 a0;clear hk)
 first | go_ret | go_ret2 | go_ret3
 exact ⟨rfl,hb⟩
theorem acheck_bad  (ta tb tc:ByteArray) (h:¬ (IsRat ta.data.toList∧IsRat tb.data.toList∧IsRat tc.data.toList)) (za:ta.size≤100000) (zb:tb.size≤100000) (zc:tc.size≤100000) (w:World) (R:EnvV w) :
   Calls Tryz.prog 83 #[.agg #[.string ta,.string tb,.string tc]] w (Ret w (.int .i64 2)):=by
 have c1:CV 86 #[.agg #[.string ta,.string tb,.string tc]] (.int .i64 2):=fun w R=>check3_raw ta tb tc 2 (fun k=>absurd k h) (fun _=>rfl) za zb zc w R
 have C1:=Lib.hid c1
 clear c1 h za zb zc
 have hb:=Below.refl w.heap.size w
 go_enter Tryz.func83,Tryz.ntmps83
 go_upto_region 1 with fail
 refine wp_alloc1 (fun w1 a0 hk=>?_)
 replace hb:=hb.trans (hk.mono hb.size)
 clear hk
 obtain ⟨Aa,Ab,Ac⟩:=ce3 a0
 go_wp2_with (go_at_call 86;with_reducible refine (chVB hb R C1).mono ?_;clear hb;rintro e w1 ⟨rfl,hk,hb⟩;clear Aa Ab Ac;replace a0:=zB hk a0;obtain ⟨Aa,Ab,Ac⟩:=ce3 a0;clear hk)
 first | go_ret | go_ret2 | go_ret3
 exact ⟨rfl,hb⟩
theorem acheck_err (ta tb tc:ByteArray) (v:Int) (h:NErr ta tb tc v) (za:ta.size≤100000) (zb:tb.size≤100000) (zc:tc.size≤100000) (w:World) (R:EnvV w) :
   Calls Tryz.prog 83 #[.agg #[.string ta,.string tb,.string tc]] w (Ret w (.int .i64 v)):=by
 rcases h with ⟨h,rfl⟩ | ⟨⟨rfl,rfl,rfl⟩,rfl⟩
 · exact acheck_bad ta tb tc h za zb zc w R
 · have h:=acheck_z 0 0 0 rfl rfl rfl (rn_0.rl) (rn_0.rl) (rn_0.rl) w R
   rwa [rb_0] at h
theorem normal_0 (a b c:Rat) (ra:RL a 200) (rb:RL b 200) (rc:RL c 200) (q0:a≠0) (w:World) (R:EnvV w) :
   Calls Tryz.prog 16 #[.agg #[.string (ratB a),.string (ratB b),.string (ratB c)]] w (Ret w (.int .i64 0)):=by
 have c1:∀ w,EnvV w→Calls Tryz.prog 21 #[.slice (some ⟨w.heap.size,0,none⟩) 3 3] (w.alloc (Obj.cells #[Value.string (ratB a),Value.string (ratB b),Value.string (ratB c)] 22)) (Ret w (.bool true)):=fun w R=>right3 _ _ _ true ⟨fun _=>⟨isRat_of ra,isRat_of rb,isRat_of rc⟩,fun _=>rfl⟩ (Nat.le_trans (size_of_RL ra) (by decide)) (Nat.le_trans (size_of_RL rb) (by decide)) (Nat.le_trans (size_of_RL rc) (by decide)) w R
 have eq0:((ratB a).toList == [48])=false:=by rw [ratB_eq_zero];exact decide_eq_false q0
 have pq0:¬ (ratB a).toList=[48]:=fun h=>q0 ((zero_iff _).1 h)
 have C1:=Lib.hid c1
 clear c1 q0 ra rb rc
 have hb:=Below.refl w.heap.size w
 go_enter Tryz.func16,Tryz.ntmps16
 go_upto_region 1 with fail
 refine wp_alloc1 (fun w1 a0 hk=>?_)
 replace hb:=hb.trans (hk.mono hb.size)
 clear hk
 obtain ⟨Aa,Ab,Ac⟩:=ce3 a0
 go_wp2_with (go_at_call 21;with_reducible refine (zL hb (C1.out _ (R.below hb))).mono ?_;clear hb;rintro e w1 ⟨rfl,hk,hb⟩;clear Aa Ab Ac;replace a0:=zB hk a0;obtain ⟨Aa,Ab,Ac⟩:=ce3 a0;clear hk)
 first | go_ret | go_ret2 | go_ret3
 exact ⟨rfl,hb⟩
theorem normal_1 (a b c:Rat) (ra:RL a 200) (rb:RL b 200) (rc:RL c 200) (q0:a=0) (q1:b≠0) (w:World) (R:EnvV w) :
   Calls Tryz.prog 16 #[.agg #[.string (ratB a),.string (ratB b),.string (ratB c)]] w (Ret w (.int .i64 0)):=by
 have c1:∀ w,EnvV w→Calls Tryz.prog 21 #[.slice (some ⟨w.heap.size,0,none⟩) 3 3] (w.alloc (Obj.cells #[Value.string (ratB a),Value.string (ratB b),Value.string (ratB c)] 22)) (Ret w (.bool true)):=fun w R=>right3 _ _ _ true ⟨fun _=>⟨isRat_of ra,isRat_of rb,isRat_of rc⟩,fun _=>rfl⟩ (Nat.le_trans (size_of_RL ra) (by decide)) (Nat.le_trans (size_of_RL rb) (by decide)) (Nat.le_trans (size_of_RL rc) (by decide)) w R
 have eq0:((ratB a).toList == [48])=true:=by rw [ratB_eq_zero];exact decide_eq_true q0
 have pq0:(ratB a).toList=[48]:=(zero_iff _).2 q0
 have eq1:((ratB b).toList == [48])=false:=by rw [ratB_eq_zero];exact decide_eq_false q1
 have pq1:¬ (ratB b).toList=[48]:=fun h=>q1 ((zero_iff _).1 h)
 have C1:=Lib.hid c1
 clear c1 q0 q1 ra rb rc
 have hb:=Below.refl w.heap.size w
 go_enter Tryz.func16,Tryz.ntmps16
 go_upto_region 1 with fail
 refine wp_alloc1 (fun w1 a0 hk=>?_)
 replace hb:=hb.trans (hk.mono hb.size)
 clear hk
 obtain ⟨Aa,Ab,Ac⟩:=ce3 a0
 go_wp2_with (go_at_call 21;with_reducible refine (zL hb (C1.out _ (R.below hb))).mono ?_;clear hb;rintro e w1 ⟨rfl,hk,hb⟩;clear Aa Ab Ac;replace a0:=zB hk a0;obtain ⟨Aa,Ab,Ac⟩:=ce3 a0;clear hk)
 first | go_ret | go_ret2 | go_ret3
 exact ⟨rfl,hb⟩
theorem normal_2 (a b c:Rat) (ra:RL a 200) (rb:RL b 200) (rc:RL c 200) (q0:a=0) (q1:b=0) (q2:c≠0) (w:World) (R:EnvV w) :
   Calls Tryz.prog 16 #[.agg #[.string (ratB a),.string (ratB b),.string (ratB c)]] w (Ret w (.int .i64 0)):=by
 have c1:∀ w,EnvV w→Calls Tryz.prog 21 #[.slice (some ⟨w.heap.size,0,none⟩) 3 3] (w.alloc (Obj.cells #[Value.string (ratB a),Value.string (ratB b),Value.string (ratB c)] 22)) (Ret w (.bool true)):=fun w R=>right3 _ _ _ true ⟨fun _=>⟨isRat_of ra,isRat_of rb,isRat_of rc⟩,fun _=>rfl⟩ (Nat.le_trans (size_of_RL ra) (by decide)) (Nat.le_trans (size_of_RL rb) (by decide)) (Nat.le_trans (size_of_RL rc) (by decide)) w R
 have eq0:((ratB a).toList == [48])=true:=by rw [ratB_eq_zero];exact decide_eq_true q0
 have pq0:(ratB a).toList=[48]:=(zero_iff _).2 q0
 have eq1:((ratB b).toList == [48])=true:=by rw [ratB_eq_zero];exact decide_eq_true q1
 have pq1:(ratB b).toList=[48]:=(zero_iff _).2 q1
 have eq2:((ratB c).toList == [48])=false:=by rw [ratB_eq_zero];exact decide_eq_false q2
 have pq2:¬ (ratB c).toList=[48]:=fun h=>q2 ((zero_iff _).1 h)
 have C1:=Lib.hid c1
 clear c1 q0 q1 q2 ra rb rc
 have hb:=Below.refl w.heap.size w
 go_enter Tryz.func16,Tryz.ntmps16
 go_upto_region 1 with fail
 refine wp_alloc1 (fun w1 a0 hk=>?_)
 replace hb:=hb.trans (hk.mono hb.size)
 clear hk
 obtain ⟨Aa,Ab,Ac⟩:=ce3 a0
 go_wp2_with (go_at_call 21;with_reducible refine (zL hb (C1.out _ (R.below hb))).mono ?_;clear hb;rintro e w1 ⟨rfl,hk,hb⟩;clear Aa Ab Ac;replace a0:=zB hk a0;obtain ⟨Aa,Ab,Ac⟩:=ce3 a0;clear hk)
 first | go_ret | go_ret2 | go_ret3
 exact ⟨rfl,hb⟩
theorem normal_z (a b c:Rat) (ra:RL a 200) (rb:RL b 200) (rc:RL c 200) (q0:a=0) (q1:b=0) (q2:c=0) (w:World) (R:EnvV w) :
   Calls Tryz.prog 16 #[.agg #[.string (ratB a),.string (ratB b),.string (ratB c)]] w (Ret w (.int .i64 17)):=by
 have c1:∀ w,EnvV w→Calls Tryz.prog 21 #[.slice (some ⟨w.heap.size,0,none⟩) 3 3] (w.alloc (Obj.cells #[Value.string (ratB a),Value.string (ratB b),Value.string (ratB c)] 22)) (Ret w (.bool true)):=fun w R=>right3 _ _ _ true ⟨fun _=>⟨isRat_of ra,isRat_of rb,isRat_of rc⟩,fun _=>rfl⟩ (Nat.le_trans (size_of_RL ra) (by decide)) (Nat.le_trans (size_of_RL rb) (by decide)) (Nat.le_trans (size_of_RL rc) (by decide)) w R
 have eq0:((ratB a).toList == [48])=true:=by rw [ratB_eq_zero];exact decide_eq_true q0
 have pq0:(ratB a).toList=[48]:=(zero_iff _).2 q0
 have eq1:((ratB b).toList == [48])=true:=by rw [ratB_eq_zero];exact decide_eq_true q1
 have pq1:(ratB b).toList=[48]:=(zero_iff _).2 q1
 have eq2:((ratB c).toList == [48])=true:=by rw [ratB_eq_zero];exact decide_eq_true q2
 have pq2:(ratB c).toList=[48]:=(zero_iff _).2 q2
 have C1:=Lib.hid c1
 clear c1 q0 q1 q2 ra rb rc
 have hb:=Below.refl w.heap.size w
 go_enter Tryz.func16,Tryz.ntmps16
 go_upto_region 1 with fail
 refine wp_alloc1 (fun w1 a0 hk=>?_)
 replace hb:=hb.trans (hk.mono hb.size)
 clear hk
 obtain ⟨Aa,Ab,Ac⟩:=ce3 a0
 go_wp2_with (go_at_call 21;with_reducible refine (zL hb (C1.out _ (R.below hb))).mono ?_;clear hb;rintro e w1 ⟨rfl,hk,hb⟩;clear Aa Ab Ac;replace a0:=zB hk a0;obtain ⟨Aa,Ab,Ac⟩:=ce3 a0;clear hk)
 first | go_ret | go_ret2 | go_ret3
 exact ⟨rfl,hb⟩
theorem normal_ok (a b c:Rat) (ra:RL a 200) (rb:RL b 200) (rc:RL c 200) (h:a≠0∨b≠0∨c≠0) (w:World) (R:EnvV w) :
   Calls Tryz.prog 16 #[.agg #[.string (ratB a),.string (ratB b),.string (ratB c)]] w (Ret w (.int .i64 0)):=by
 by_cases q0:a=0
 · by_cases q1:b=0
   · exact normal_2 a b c ra rb rc q0 q1 ((h.resolve_left (fun k=>k q0)).resolve_left (fun k=>k q1)) w R
   · exact normal_1 a b c ra rb rc q0 q1 w R
 · exact normal_0 a b c ra rb rc q0 w R
theorem normal_bad  (ta tb tc:ByteArray) (h:¬ (IsRat ta.data.toList∧IsRat tb.data.toList∧IsRat tc.data.toList)) (za:ta.size≤100000) (zb:tb.size≤100000) (zc:tc.size≤100000) (w:World) (R:EnvV w) :
   Calls Tryz.prog 16 #[.agg #[.string ta,.string tb,.string tc]] w (Ret w (.int .i64 2)):=by
 have c1:=right3 ta tb tc false ⟨(fun h=>by cases h),fun k=>absurd k h⟩ za zb zc
 have C1:=Lib.hid c1
 clear c1 h za zb zc
 have hb:=Below.refl w.heap.size w
 go_enter Tryz.func16,Tryz.ntmps16
 go_upto_region 1 with fail
 refine wp_alloc1 (fun w1 a0 hk=>?_)
 replace hb:=hb.trans (hk.mono hb.size)
 clear hk
 obtain ⟨Aa,Ab,Ac⟩:=ce3 a0
 go_wp2_with (go_at_call 21;with_reducible refine (zL hb (C1.out _ (R.below hb))).mono ?_;clear hb;rintro e w1 ⟨rfl,hk,hb⟩;clear Aa Ab Ac;replace a0:=zB hk a0;obtain ⟨Aa,Ab,Ac⟩:=ce3 a0;clear hk)
 first | go_ret | go_ret2 | go_ret3
 exact ⟨rfl,hb⟩
theorem normal_err (ta tb tc:ByteArray) (v:Int) (h:NErr ta tb tc v) (za:ta.size≤100000) (zb:tb.size≤100000) (zc:tc.size≤100000) (w:World) (R:EnvV w) :
   Calls Tryz.prog 16 #[.agg #[.string ta,.string tb,.string tc]] w (Ret w (.int .i64 v)):=by
 rcases h with ⟨h,rfl⟩ | ⟨⟨rfl,rfl,rfl⟩,rfl⟩
 · exact normal_bad ta tb tc h za zb zc w R
 · have r0:RL (0:Rat) 200:=rn_0.rl
   have h:=normal_z 0 0 0 r0 r0 r0 rfl rfl rfl w R
   rwa [rb_0] at h
theorem normal_cases (ta tb tc:ByteArray) (sa:ta.size≤24) (sb:tb.size≤24) (sc:tc.size≤24) :
   (∃ v,NErr ta tb tc v)∨∃ a b c:Rat,ta=ratB a∧tb=ratB b∧tc=ratB c∧RN a 24 24∧RN b 24 24∧RN c 24 24∧(a≠0∨b≠0∨c≠0):=by
 by_cases h:IsRat ta.data.toList∧IsRat tb.data.toList∧IsRat tc.data.toList
 · obtain ⟨a,rfl,_⟩:=rat_of h.1
   obtain ⟨b,rfl,_⟩:=rat_of h.2.1
   obtain ⟨c,rfl,_⟩:=rat_of h.2.2
   by_cases g:a=0∧b=0∧c=0
   · obtain ⟨rfl,rfl,rfl⟩:=g
     exact Or.inl ⟨17,Or.inr ⟨⟨rb_0,rb_0,rb_0⟩,rfl⟩⟩
   · refine Or.inr ⟨a,b,c,rfl,rfl,rfl,RN_of (RL_of_size sa),RN_of (RL_of_size sb),RN_of (RL_of_size sc),?_⟩
     by_cases q0:a=0
     · by_cases q1:b=0
       · exact Or.inr (Or.inr (fun q2=>g ⟨q0,q1,q2⟩))
       · exact Or.inr (Or.inl q1)
     · exact Or.inl q0
 · exact Or.inl ⟨2,Or.inl ⟨h,rfl⟩⟩
theorem slope_err  (ta tb tc:ByteArray) (ea eb v:Int) (ca:CV 83 #[.agg #[.string ta,.string tb,.string tc]] (.int .i64 ea)) (hv:firstNZ [ea,eb]=v) (q0:v≠0) (w:World) (R:EnvV w) :
   Calls Tryz.prog 75 #[.agg #[.string ta,.string tb,.string tc],.int .i64 eb] w (Ret w (.int .i64 v)):=by
 have c1:=ca
 have c2:=fun (w:World) (R:EnvV w)=>orErr2 ea eb v hv w R.toEnvR
 have eq0:(v == 0)=false:=beq_eq_false_iff_ne.2 q0
 have pq0:¬ v=0:=q0
 have C1:=Lib.hid c1
 have C2:=Lib.hid c2
 clear c1 c2 q0 ca hv
 have hb:=Below.refl w.heap.size w
 go_enter Tryz.func75,Tryz.ntmps75
 go_upto_region 1 with fail
 refine wp_alloc1 (fun w1 a0 hk=>?_)
 replace hb:=hb.trans (hk.mono hb.size)
 clear hk
 obtain ⟨Aa,Ab,Ac⟩:=ce3 a0
 go_wp2_with ((first | (go_at_call 83;with_reducible refine (chVB hb R C1).mono ?_) | (go_at_call 68;with_reducible refine (zL hb (C2.out _ (R.below hb))).mono ?_));clear hb;rintro e w1 ⟨rfl,hk,hb⟩;clear Aa Ab Ac;replace a0:=zB hk a0;obtain ⟨Aa,Ab,Ac⟩:=ce3 a0;clear hk)
 first | go_ret | go_ret2 | go_ret3
 exact ⟨rfl,hb⟩
theorem slope_v (a b c:Rat) (h:a≠0∨b≠0∨c≠0) (ra:RL a 200) (rb:RL b 200) (rc:RL c 200) (g:c=0) (w:World) (R:EnvV w) :
   Calls Tryz.prog 75 #[.agg #[.string (ratB a),.string (ratB b),.string (ratB c)],.int .i64 0] w (Ret w (.int .i64 21)):=by
 have c1:=acheck_ok a b c h ra rb rc
 have c2:=fun (w:World) (R:EnvV w)=>orErr2 0 0 0 (by decide) w R.toEnvR
 have c3:=ver_t a b c g
 obtain ⟨Ag,Aa⟩:∃ vq,ratB a=vq:=⟨_,rfl⟩
 obtain ⟨Ah,Ab⟩:∃ vq,ratB b=vq:=⟨_,rfl⟩
 obtain ⟨Ai,Ac⟩:∃ vq,ratB c=vq:=⟨_,rfl⟩
 try simp only [Aa,Ab,Ac] at c1 c2 c3 ⊢
 have C1:=Lib.hid c1
 have C2:=Lib.hid c2
 have C3:=Lib.hid c3
 clear c1 c2 c3 Aa Ab Ac h ra rb rc g
 have hb:=Below.refl w.heap.size w
 go_enter Tryz.func75,Tryz.ntmps75
 go_upto_region 1 with fail
 refine wp_alloc1 (fun w1 a0 hk=>?_)
 replace hb:=hb.trans (hk.mono hb.size)
 clear hk
 obtain ⟨Ad,Ae,Af⟩:=ce3 a0
 go_wp2_with ((first | (go_at_call 83;with_reducible refine (chVB hb R C1).mono ?_) | (go_at_call 68;with_reducible refine (zL hb (C2.out _ (R.below hb))).mono ?_) | (go_at_call 47;with_reducible refine (chVB hb R C3).mono ?_));clear hb;rintro e w1 ⟨rfl,hk,hb⟩;clear Ad Ae Af;replace a0:=zB hk a0;obtain ⟨Ad,Ae,Af⟩:=ce3 a0;clear hk)
 first | go_ret | go_ret2 | go_ret3
 exact ⟨rfl,hb⟩
theorem cdir_bad  (ta tb:ByteArray) (h:¬ (IsRat ta.data.toList∧IsRat tb.data.toList)) (za:ta.size≤100000) (zb:tb.size≤100000) (w:World) (R:EnvV w) :
   Calls Tryz.prog 64 #[.agg #[.string ta,.string tb]] w (Ret w (.int .i64 2)):=by
 have c1:CV 77 #[.agg #[.string ta,.string tb]] (.int .i64 2):=fun w R=>check2_raw ta tb 2 (fun k=>absurd k h) (fun _=>rfl) za zb w R
 have C1:=Lib.hid c1
 clear c1 h za zb
 have hb:=Below.refl w.heap.size w
 go_enter Tryz.func64,Tryz.ntmps64
 go_upto_region 1 with fail
 refine wp_alloc1 (fun w1 a0 hk=>?_)
 replace hb:=hb.trans (hk.mono hb.size)
 clear hk
 obtain ⟨Aa,Ab⟩:=ce2 a0
 go_wp2_with (go_at_call 77;with_reducible refine (chVB hb R C1).mono ?_;clear hb;rintro e w1 ⟨rfl,hk,hb⟩;clear Aa Ab;replace a0:=zB hk a0;obtain ⟨Aa,Ab⟩:=ce2 a0;clear hk)
 first | go_ret | go_ret2 | go_ret3
 exact ⟨rfl,hb⟩
theorem cdir_z (x y:Rat) (rx:RL x 200) (ry:RL y 200) (q0:x=0) (q1:y=0) (w:World) (R:EnvV w) :
   Calls Tryz.prog 64 #[.agg #[.string (ratB x),.string (ratB y)]] w (Ret w (.int .i64 17)):=by
 have c1:=fun (w:World) (R:EnvV w)=>pcheck_ok x y rx ry w R.toEnvR
 have eq0:((ratB x).toList == [48])=true:=by rw [ratB_eq_zero];exact decide_eq_true q0
 have pq0:(ratB x).toList=[48]:=(zero_iff _).2 q0
 have eq1:((ratB y).toList == [48])=true:=by rw [ratB_eq_zero];exact decide_eq_true q1
 have pq1:(ratB y).toList=[48]:=(zero_iff _).2 q1
 have C1:=Lib.hid c1
 clear c1 q0 q1 rx ry
 have hb:=Below.refl w.heap.size w
 go_enter Tryz.func64,Tryz.ntmps64
 go_upto_region 1 with fail
 refine wp_alloc1 (fun w1 a0 hk=>?_)
 replace hb:=hb.trans (hk.mono hb.size)
 clear hk
 obtain ⟨Aa,Ab⟩:=ce2 a0
 go_wp2_with (go_at_call 77;with_reducible refine (chVB hb R C1).mono ?_;clear hb;rintro e w1 ⟨rfl,hk,hb⟩;clear Aa Ab;replace a0:=zB hk a0;obtain ⟨Aa,Ab⟩:=ce2 a0;clear hk)
 first | go_ret | go_ret2 | go_ret3
 exact ⟨rfl,hb⟩
theorem cdir_err (ta tb:ByteArray) (v:Int) (h:NErr ta tb ⟨#[48]⟩ v) (za:ta.size≤100000) (zb:tb.size≤100000) (w:World) (R:EnvV w) :
   Calls Tryz.prog 64 #[.agg #[.string ta,.string tb]] w (Ret w (.int .i64 v)):=by
 rcases h with ⟨h,rfl⟩ | ⟨⟨rfl,rfl,_⟩,rfl⟩
 · exact cdir_bad ta tb (fun k=>h ⟨k.1,k.2,isRat_0⟩) za zb w R
 · have r0:RL (0:Rat) 200:=rn_0.rl
   have h:=cdir_z 0 0 r0 r0 rfl rfl w R
   rwa [rb_0] at h
theorem ldir_err  (ta tb:ByteArray) (v:Int) (h:NErr ta tb ⟨#[48]⟩ v) (za:ta.size≤100000) (zb:tb.size≤100000) (w:World) (R:EnvV w) :
   Calls Tryz.prog 27 #[.agg #[.string ta,.string tb]] w (Ret w (.int .i64 v)):=by
 have c1:=normal_err ta tb ⟨#[48]⟩ v h za zb (by decide)
 have C1:=Lib.hid c1
 clear c1 h za zb
 have hb:=Below.refl w.heap.size w
 go_enter Tryz.func27,Tryz.ntmps27
 go_upto_region 1 with fail
 refine wp_alloc1 (fun w1 a0 hk=>?_)
 replace hb:=hb.trans (hk.mono hb.size)
 clear hk
 obtain ⟨Aa,Ab⟩:=ce2 a0
 go_wp2_with (go_at_call 16;with_reducible refine (chVB hb R C1).mono ?_;clear hb;rintro e w1 ⟨rfl,hk,hb⟩;clear Aa Ab;replace a0:=zB hk a0;obtain ⟨Aa,Ab⟩:=ce2 a0;clear hk)
 first | go_ret | go_ret2 | go_ret3
 exact ⟨rfl,hb⟩
theorem ldir_ok (x y:Rat) (rx:RL x 200) (ry:RL y 200) (h:x≠0∨y≠0) (w:World) (R:EnvV w) :
   Calls Tryz.prog 27 #[.agg #[.string (ratB x),.string (ratB y)]] w (Ret w (.int .i64 0)):=by
 have c1:CV 16 #[.agg #[.string (ratB x),.string (ratB y),.string ⟨#[48]⟩]] (.int .i64 0):=fun w R=>(by have h:=normal_ok x y 0 rx ry (rn_0.rl) (h.elim Or.inl (fun k=>Or.inr (Or.inl k))) w R;rw [rb_0] at h;exact h)
 obtain ⟨Ae,Aa⟩:∃ vq,ratB x=vq:=⟨_,rfl⟩
 obtain ⟨Af,Ab⟩:∃ vq,ratB y=vq:=⟨_,rfl⟩
 try simp only [Aa,Ab] at c1 ⊢
 have C1:=Lib.hid c1
 clear c1 Aa Ab h rx ry
 have hb:=Below.refl w.heap.size w
 go_enter Tryz.func27,Tryz.ntmps27
 go_upto_region 1 with fail
 refine wp_alloc1 (fun w1 a0 hk=>?_)
 replace hb:=hb.trans (hk.mono hb.size)
 clear hk
 obtain ⟨Ac,Ad⟩:=ce2 a0
 go_wp2_with (go_at_call 16;with_reducible refine (chVB hb R C1).mono ?_;clear hb;rintro e w1 ⟨rfl,hk,hb⟩;clear Ac Ad;replace a0:=zB hk a0;obtain ⟨Ac,Ad⟩:=ce2 a0;clear hk)
 first | go_ret | go_ret2 | go_ret3
 exact ⟨rfl,hb⟩
theorem dir_cases (ta tb:ByteArray) (sa:ta.size≤24) (sb:tb.size≤24) :
   (∃ v,NErr ta tb ⟨#[48]⟩ v)∨∃ a b:Rat,ta=ratB a∧tb=ratB b∧RN a 24 24∧RN b 24 24∧(a≠0∨b≠0):=by
 rcases normal_cases ta tb ⟨#[48]⟩ sa sb (by decide) with h | ⟨a,b,c,ha,hb,hc,na,nb,_,h⟩
 · exact Or.inl h
 · refine Or.inr ⟨a,b,ha,hb,na,nb,?_⟩
   have hc0:c=0:=ratB_inj (hc.symm.trans rb_0.symm)
   exact h.elim Or.inl (fun k=>k.elim Or.inr (fun k=>absurd hc0 k))
theorem appar_err  (ta tb tc te tf:ByteArray) (ed v:Int) (cd:CV 64 #[.agg #[.string te,.string tf]] (.int .i64 ed)) (cs:CV 75 #[.agg #[.string ta,.string tb,.string tc],.int .i64 ed] (.int .i64 v)) (q0:v≠0) (w:World) (R:EnvV w) :
   Calls Tryz.prog 36 #[.agg #[.string ta,.string tb,.string tc],.agg #[.string te,.string tf]] w (Ret w (.tuple #[.string ⟨#[]⟩,.int .i64 v])):=by
 have c1:=cd
 have c2:=cs
 have eq0:(v == 0)=false:=beq_eq_false_iff_ne.2 q0
 have pq0:¬ v=0:=q0
 have C1:=Lib.hid c1
 have C2:=Lib.hid c2
 clear c1 c2 q0 cd cs
 have hb:=Below.refl w.heap.size w
 go_enter Tryz.func36,Tryz.ntmps36
 go_upto_region 1 with fail
 refine wp_alloc2 (fun w1 a0 a1 hk=>?_)
 replace hb:=hb.trans (hk.mono hb.size)
 clear hk
 obtain ⟨Aa,Ab,Ac⟩:=ce3 a0
 obtain ⟨Ad,Ae⟩:=ce2 a1
 go_upto_region 1 with fail
 obtain ⟨Ah,Ai,Aj⟩:=cy3 a0
 obtain ⟨Ak,Al⟩:=cy2 a1
 have Af:=rrV C1 R hb
 have Ag:=rrV C2 R hb
 refine wp_region_quiet_below (by first | assumption | kernel_rfl) (by kernel_rfl) ?_
 repeat (quiet_step (first | (with_reducible exact Af.out _ _) | (with_reducible exact Ag.out _ _)))
 refine wpQuiet_nil ?_
 intro w1 hw'
 obtain ⟨hk,hb⟩:=zQ hb hw'
 clear Aa Ab Ac Ad Ae
 replace a0:=zB hk a0
 replace a1:=zB hk a1
 obtain ⟨Aa,Ab,Ac⟩:=ce3 a0
 obtain ⟨Ad,Ae⟩:=ce2 a1
 clear Af Ag Ah Ai Aj Ak Al
 clear hk hw'
 go_wp2
 first | go_ret | go_ret2 | go_ret3
 exact ⟨rfl,hb⟩
theorem fcheck_any  (ta tb tc:ByteArray) (ed eo v:Int) (cd:CV 64 #[.agg #[.string ta,.string tb]] (.int .i64 ed)) (co:CV 78 #[.string tc] (.int .i64 eo)) (hv:firstNZ [ed,eo]=v) (w:World) (R:EnvV w) :
   Calls Tryz.prog 80 #[.agg #[.string ta,.string tb,.string tc]] w (Ret w (.int .i64 v)):=by
 have c1:=cd
 have c2:=co
 have c3:=fun (w:World) (R:EnvV w)=>orErr2 ed eo v hv w R.toEnvR
 have C1:=Lib.hid c1
 have C2:=Lib.hid c2
 have C3:=Lib.hid c3
 clear c1 c2 c3 cd co hv
 have hb:=Below.refl w.heap.size w
 go_enter Tryz.func80,Tryz.ntmps80
 go_upto_region 1 with fail
 refine wp_alloc1 (fun w1 a0 hk=>?_)
 replace hb:=hb.trans (hk.mono hb.size)
 clear hk
 obtain ⟨Aa,Ab,Ac⟩:=ce3 a0
 go_upto_region 1 with fail
 obtain ⟨Af,Ag,Ah⟩:=cy3 a0
 have Ad:=rrV C1 R hb
 have Ae:=rrV C2 R hb
 refine wp_region_tail_below 6 (by first | assumption | kernel_rfl) (by kernel_rfl) ?_
 simp only [List.take_succ_cons,List.take_zero,List.drop_succ_cons,List.drop_zero]
 repeat (quiet_step (first | (with_reducible exact Ad.out _ _) | (with_reducible exact Ae.out _ _)))
 refine wpQuiet_nil ?_
 intro w1 hw'
 obtain ⟨hk,hb⟩:=zQ hb hw'
 clear Aa Ab Ac
 replace a0:=zB hk a0
 obtain ⟨Aa,Ab,Ac⟩:=ce3 a0
 clear Ad Ae Af Ag Ah
 clear hk hw'
 go_wp2_with (go_at_call 68;with_reducible refine (zL hb (C3.out _ (R.below hb))).mono ?_;clear hb;rintro e w1 ⟨rfl,hk,hb⟩;clear Aa Ab Ac;replace a0:=zB hk a0;obtain ⟨Aa,Ab,Ac⟩:=ce3 a0;clear hk)
 first | go_ret | go_ret2 | go_ret3
 exact ⟨rfl,hb⟩
theorem true_err  (ta tb tc td te tf:ByteArray) (ea eb v:Int) (ca:CV 80 #[.agg #[.string ta,.string tb,.string tc]] (.int .i64 ea)) (cb:CV 80 #[.agg #[.string td,.string te,.string tf]] (.int .i64 eb)) (hv:firstNZ [ea,eb]=v) (q0:v≠0) (w:World) (R:EnvV w) :
   Calls Tryz.prog 38 #[.agg #[.string ta,.string tb,.string tc],.agg #[.string td,.string te,.string tf]] w (Ret w (.tuple #[.agg #[.string ⟨#[]⟩,.string ⟨#[]⟩,.string ⟨#[]⟩],.int .i64 v])):=by
 have c1:=ca
 have c2:=cb
 have c3:=fun (w:World) (R:EnvV w)=>orErr2 ea eb v hv w R.toEnvR
 have eq0:(v == 0)=false:=beq_eq_false_iff_ne.2 q0
 have pq0:¬ v=0:=q0
 have C1:=Lib.hid c1
 have C2:=Lib.hid c2
 have C3:=Lib.hid c3
 clear c1 c2 c3 q0 ca cb hv
 have hb:=Below.refl w.heap.size w
 go_enter Tryz.func38,Tryz.ntmps38
 go_upto_region 1 with fail
 refine wp_alloc3 (fun w1 a0 a1 a2 hk=>?_)
 replace hb:=hb.trans (hk.mono hb.size)
 clear hk
 obtain ⟨Ad,Ae,Af⟩:=ce3 a0
 obtain ⟨Ag,Ah,Ai⟩:=ce3 a1
 obtain ⟨Aa,Aj,Ab,Ak,Ac,Al⟩:=cf3 a2
 go_upto_region 1 with fail
 obtain ⟨Ao,Ap,Aq⟩:=cy3 a0
 obtain ⟨Ar,As,At⟩:=cy3 a1
 obtain ⟨Au,Av,Aw⟩:=cy3 a2
 have Am:=rrV C1 R hb
 have An:=rrV C2 R hb
 refine wp_region_tail_below 4 (by first | assumption | kernel_rfl) (by kernel_rfl) ?_
 simp only [List.take_succ_cons,List.take_zero,List.drop_succ_cons,List.drop_zero]
 repeat (quiet_step (first | (with_reducible exact Am.out _ _) | (with_reducible exact An.out _ _)))
 refine wpQuiet_nil ?_
 intro w1 hw'
 obtain ⟨hk,hb⟩:=zQ hb hw'
 clear Ad Ae Af Ag Ah Ai Aa Ab Ac Aj Ak Al
 replace a0:=zB hk a0
 replace a1:=zB hk a1
 replace a2:=zB hk a2
 obtain ⟨Ad,Ae,Af⟩:=ce3 a0
 obtain ⟨Ag,Ah,Ai⟩:=ce3 a1
 obtain ⟨Aa,Aj,Ab,Ak,Ac,Al⟩:=cf3 a2
 clear Am An Ao Ap Aq Ar As At Au Av Aw
 clear hk hw'
 go_wp2_with (go_at_call 68;with_reducible refine (zL hb (C3.out _ (R.below hb))).mono ?_;clear hb;rintro e w1 ⟨rfl,hk,hb⟩;clear Ad Ae Af Ag Ah Ai Aa Ab Ac Aj Ak Al;replace a0:=zB hk a0;replace a1:=zB hk a1;replace a2:=zB hk a2;obtain ⟨Ad,Ae,Af⟩:=ce3 a0;obtain ⟨Ag,Ah,Ai⟩:=ce3 a1;obtain ⟨Aa,Aj,Ab,Ak,Ac,Al⟩:=cf3 a2;clear hk)
 refine bodyPost_ret (v:=.tuple #[.agg #[.string ⟨#[]⟩,.string ⟨#[]⟩,.string ⟨#[]⟩],.int .i64 v]) (by simp [results,Tryz.results38,go_sem,Aa,Ab,Ac]) rfl ⟨rfl,?_⟩
 repeat' (first | exact hb | refine Below.setCell ?_ (by first | exact Nat.le_refl _ | (dsimp only;omega)) _)
theorem true_dep (a b c x y z:Rat) (q0:((a*y) - (b*x))=0) (r1:RL a 200) (r2:RL b 200) (r3:a≠0∨b≠0) (r4:RL c 200) (r5:RL x 200) (r6:RL y 200) (r7:x≠0∨y≠0) (r8:RL z 200) (r9:RL a 10000) (r10:RL y 10000) (r11:RL b 10000) (r12:RL x 10000) (r13:RL (a*y) 10000) (r14:RL (b*x) 10000) (w:World) (R:EnvV w) :
   Calls Tryz.prog 38 #[.agg #[.string (ratB a),.string (ratB b),.string (ratB c)],.agg #[.string (ratB x),.string (ratB y),.string (ratB z)]] w (Ret w (.tuple #[.agg #[.string ⟨#[]⟩,.string ⟨#[]⟩,.string ⟨#[]⟩],.int .i64 18])):=by
 have c1:=fun (w:World) (R:EnvV w)=>fcheck_any (ratB a) (ratB b) (ratB c) 0 0 0 (fun w R=>cdir_ok a b r1 r2 r3 w R) (fun w R=>rcheck_any (ratB c) 0 (Or.inl ⟨isRat_of r4,rfl⟩) (Nat.le_trans (size_of_RL r4) (by decide)) w R.toEnvR) (by decide) w R
 have c2:=fun (w:World) (R:EnvV w)=>fcheck_any (ratB x) (ratB y) (ratB z) 0 0 0 (fun w R=>cdir_ok x y r5 r6 r7 w R) (fun w R=>rcheck_any (ratB z) 0 (Or.inl ⟨isRat_of r8,rfl⟩) (Nat.le_trans (size_of_RL r8) (by decide)) w R.toEnvR) (by decide) w R
 have c3:=fun (w:World) (R:EnvV w)=>orErr2 0 0 0 (by decide) w R.toEnvR
 have c4:=xdet_any a b x y r9 r10 r11 r12 r13 r14
 have eq0:((ratB ((a*y) - (b*x))).toList == [48])=true:=by rw [ratB_eq_zero];exact decide_eq_true q0
 have pq0:(ratB ((a*y) - (b*x))).toList=[48]:=(zero_iff _).2 q0
 obtain ⟨A4,Am⟩:∃ vq,ratB ((a*y) - (b*x))=vq:=⟨_,rfl⟩
 obtain ⟨A5,An⟩:∃ vq,ratB a=vq:=⟨_,rfl⟩
 obtain ⟨A6,Ao⟩:∃ vq,ratB b=vq:=⟨_,rfl⟩
 obtain ⟨A7,Ap⟩:∃ vq,ratB c=vq:=⟨_,rfl⟩
 obtain ⟨A8,Aq⟩:∃ vq,ratB x=vq:=⟨_,rfl⟩
 obtain ⟨A9,Ar⟩:∃ vq,ratB y=vq:=⟨_,rfl⟩
 obtain ⟨Ba,As⟩:∃ vq,ratB z=vq:=⟨_,rfl⟩
 try simp only [Am,An,Ao,Ap,Aq,Ar,As] at c1 c2 c3 c4 eq0 pq0 ⊢
 have C1:=Lib.hid c1
 have C2:=Lib.hid c2
 have C3:=Lib.hid c3
 have C4:=Lib.hid c4
 clear c1 c2 c3 c4 Am An Ao Ap Aq Ar As q0 r1 r2 r3 r4 r5 r6 r7 r8 r9 r10 r11 r12 r13 r14
 have hb:=Below.refl w.heap.size w
 go_enter Tryz.func38,Tryz.ntmps38
 go_upto_region 1 with fail
 refine wp_alloc3 (fun w1 a0 a1 a2 hk=>?_)
 replace hb:=hb.trans (hk.mono hb.size)
 clear hk
 obtain ⟨Ad,Ae,Af⟩:=ce3 a0
 obtain ⟨Ag,Ah,Ai⟩:=ce3 a1
 obtain ⟨Aa,Aj,Ab,Ak,Ac,Al⟩:=cf3 a2
 go_upto_region 1 with fail
 obtain ⟨Av,Aw,Ax⟩:=cy3 a0
 obtain ⟨Ay,Az,A0⟩:=cy3 a1
 obtain ⟨A1,A2,A3⟩:=cy3 a2
 have At:=rrV C1 R hb
 have Au:=rrV C2 R hb
 refine wp_region_tail_below 4 (by first | assumption | kernel_rfl) (by kernel_rfl) ?_
 simp only [List.take_succ_cons,List.take_zero,List.drop_succ_cons,List.drop_zero]
 repeat (quiet_step (first | (with_reducible exact At.out _ _) | (with_reducible exact Au.out _ _)))
 refine wpQuiet_nil ?_
 intro w1 hw'
 obtain ⟨hk,hb⟩:=zQ hb hw'
 clear Ad Ae Af Ag Ah Ai Aa Ab Ac Aj Ak Al
 replace a0:=zB hk a0
 replace a1:=zB hk a1
 replace a2:=zB hk a2
 obtain ⟨Ad,Ae,Af⟩:=ce3 a0
 obtain ⟨Ag,Ah,Ai⟩:=ce3 a1
 obtain ⟨Aa,Aj,Ab,Ak,Ac,Al⟩:=cf3 a2
 clear At Au Av Aw Ax Ay Az A0 A1 A2 A3
 clear hk hw'
 go_wp2_with ((first | (go_at_call 68;with_reducible refine (zL hb (C3.out _ (R.below hb))).mono ?_) | (go_at_call 81;with_reducible refine (chVB hb R C4).mono ?_));clear hb;rintro e w1 ⟨rfl,hk,hb⟩;clear Ad Ae Af Ag Ah Ai Aa Ab Ac Aj Ak Al;replace a0:=zB hk a0;replace a1:=zB hk a1;replace a2:=zB hk a2;obtain ⟨Ad,Ae,Af⟩:=ce3 a0;obtain ⟨Ag,Ah,Ai⟩:=ce3 a1;obtain ⟨Aa,Aj,Ab,Ak,Ac,Al⟩:=cf3 a2;clear hk)
 refine bodyPost_ret (v:=.tuple #[.agg #[.string ⟨#[]⟩,.string ⟨#[]⟩,.string ⟨#[]⟩],.int .i64 18]) (by simp [results,Tryz.results38,go_sem,Aa,Ab,Ac]) rfl ⟨rfl,?_⟩
 repeat' (first | exact hb | refine Below.setCell ?_ (by first | exact Nat.le_refl _ | (dsimp only;omega)) _)
theorem true_ok (a b c x y z:Rat) (q0:((a*y) - (b*x))≠0) (r1:RL a 200) (r2:RL b 200) (r3:a≠0∨b≠0) (r4:RL c 200) (r5:RL x 200) (r6:RL y 200) (r7:x≠0∨y≠0) (r8:RL z 200) (r9:RL a 10000) (r10:RL y 10000) (r11:RL b 10000) (r12:RL x 10000) (r13:RL (a*y) 10000) (r14:RL (b*x) 10000) (r15:RL c 10000) (r16:RL z 10000) (r17:RL (c*y) 10000) (r18:RL (b*z) 10000) (r19:((a*y) - (b*x))≠0) (r20:RL ((c*y) - (b*z)) 10000) (r21:RL ((a*y) - (b*x)) 10000) (r22:RL (((c*y) - (b*z)) / ((a*y) - (b*x))) 200) (r23:RL (a*z) 10000) (r24:RL (c*x) 10000) (r25:RL ((a*z) - (c*x)) 10000) (r26:RL (((a*z) - (c*x)) / ((a*y) - (b*x))) 200) (w:World) (R:EnvV w) :
   Calls Tryz.prog 38 #[.agg #[.string (ratB a),.string (ratB b),.string (ratB c)],.agg #[.string (ratB x),.string (ratB y),.string (ratB z)]] w (Ret w (.tuple #[.agg #[.string (ratB (((c*y) - (b*z)) / ((a*y) - (b*x)))),.string (ratB (((a*z) - (c*x)) / ((a*y) - (b*x)))),.string ⟨#[49]⟩],.int .i64 0])):=by
 have c1:=fun (w:World) (R:EnvV w)=>fcheck_any (ratB a) (ratB b) (ratB c) 0 0 0 (fun w R=>cdir_ok a b r1 r2 r3 w R) (fun w R=>rcheck_any (ratB c) 0 (Or.inl ⟨isRat_of r4,rfl⟩) (Nat.le_trans (size_of_RL r4) (by decide)) w R.toEnvR) (by decide) w R
 have c2:=fun (w:World) (R:EnvV w)=>fcheck_any (ratB x) (ratB y) (ratB z) 0 0 0 (fun w R=>cdir_ok x y r5 r6 r7 w R) (fun w R=>rcheck_any (ratB z) 0 (Or.inl ⟨isRat_of r8,rfl⟩) (Nat.le_trans (size_of_RL r8) (by decide)) w R.toEnvR) (by decide) w R
 have c3:=fun (w:World) (R:EnvV w)=>orErr2 0 0 0 (by decide) w R.toEnvR
 have c4:=xdet_any a b x y r9 r10 r11 r12 r13 r14
 have c5:=xdet_any c b z y r15 r10 r11 r16 r17 r18
 have c6:=quot_any ((c*y) - (b*z)) ((a*y) - (b*x)) r19 r20 r21 r22
 have c7:=xdet_any a c x z r9 r16 r15 r12 r23 r24
 have c8:=quot_any ((a*z) - (c*x)) ((a*y) - (b*x)) r19 r25 r21 r26
 have eq0:((ratB ((a*y) - (b*x))).toList == [48])=false:=by rw [ratB_eq_zero];exact decide_eq_false q0
 have pq0:¬ (ratB ((a*y) - (b*x))).toList=[48]:=fun h=>q0 ((zero_iff _).1 h)
 obtain ⟨Az,Am⟩:∃ vq,ratB (((a*z) - (c*x)) / ((a*y) - (b*x)))=vq:=⟨_,rfl⟩
 obtain ⟨A0,An⟩:∃ vq,ratB (((c*y) - (b*z)) / ((a*y) - (b*x)))=vq:=⟨_,rfl⟩
 obtain ⟨Ba,Ao⟩:∃ vq,ratB ((a*y) - (b*x))=vq:=⟨_,rfl⟩
 obtain ⟨Bb,Ap⟩:∃ vq,ratB ((a*z) - (c*x))=vq:=⟨_,rfl⟩
 obtain ⟨Bc,Aq⟩:∃ vq,ratB ((c*y) - (b*z))=vq:=⟨_,rfl⟩
 obtain ⟨Bd,Ar⟩:∃ vq,ratB a=vq:=⟨_,rfl⟩
 obtain ⟨Be,As⟩:∃ vq,ratB b=vq:=⟨_,rfl⟩
 obtain ⟨Bf,At⟩:∃ vq,ratB c=vq:=⟨_,rfl⟩
 obtain ⟨Bg,Au⟩:∃ vq,ratB x=vq:=⟨_,rfl⟩
 obtain ⟨Bh,Av⟩:∃ vq,ratB y=vq:=⟨_,rfl⟩
 obtain ⟨Bi,Aw⟩:∃ vq,ratB z=vq:=⟨_,rfl⟩
 try simp only [Am,An,Ao,Ap,Aq,Ar,As,At,Au,Av,Aw] at c1 c2 c3 c4 c5 c6 c7 c8 eq0 pq0 ⊢
 have C1:=Lib.hid c1
 have C2:=Lib.hid c2
 have C3:=Lib.hid c3
 have C4:=Lib.hid c4
 have C5:=Lib.hid c5
 have C6:=Lib.hid c6
 have C7:=Lib.hid c7
 have C8:=Lib.hid c8
 clear c1 c2 c3 c4 c5 c6 c7 c8 Am An Ao Ap Aq Ar As At Au Av Aw q0 r1 r2 r3 r4 r5 r6 r7 r8 r9 r10 r11 r12 r13 r14 r15 r16 r17 r18 r19 r20 r21 r22 r23 r24 r25 r26
 have hb:=Below.refl w.heap.size w
 go_enter Tryz.func38,Tryz.ntmps38
 go_upto_region 1 with fail
 refine wp_alloc3 (fun w1 a0 a1 a2 hk=>?_)
 replace hb:=hb.trans (hk.mono hb.size)
 clear hk
 obtain ⟨Ag,Ah,Ai⟩:=ce3 a0
 obtain ⟨Aj,Ak,Al⟩:=ce3 a1
 obtain ⟨Aa,Ad,Ab,Ae,Ac,Af⟩:=cf3 a2
 go_upto_region 1 with fail
 obtain ⟨A1,A2,A3⟩:=cy3 a0
 obtain ⟨A4,A5,A6⟩:=cy3 a1
 obtain ⟨A7,A8,A9⟩:=cy3 a2
 have Ax:=rrV C1 R hb
 have Ay:=rrV C2 R hb
 refine wp_region_tail_below 4 (by first | assumption | kernel_rfl) (by kernel_rfl) ?_
 simp only [List.take_succ_cons,List.take_zero,List.drop_succ_cons,List.drop_zero]
 repeat (quiet_step (first | (with_reducible exact Ax.out _ _) | (with_reducible exact Ay.out _ _)))
 refine wpQuiet_nil ?_
 intro w1 hw'
 obtain ⟨hk,hb⟩:=zQ hb hw'
 clear Ag Ah Ai Aj Ak Al Aa Ab Ac Ad Ae Af
 replace a0:=zB hk a0
 replace a1:=zB hk a1
 replace a2:=zB hk a2
 obtain ⟨Ag,Ah,Ai⟩:=ce3 a0
 obtain ⟨Aj,Ak,Al⟩:=ce3 a1
 obtain ⟨Aa,Ad,Ab,Ae,Ac,Af⟩:=cf3 a2
 clear Ax Ay A1 A2 A3 A4 A5 A6 A7 A8 A9
 clear hk hw'
 go_wp2_with (first | ((first | (go_at_call 68;with_reducible refine (zL hb (C3.out _ (R.below hb))).mono ?_) | (go_at_call 81;first | with_reducible refine (chVB hb R C4).mono ?_ | with_reducible refine (chVB hb R C5).mono ?_ | with_reducible refine (chVB hb R C7).mono ?_) | (go_at_call 76;first | with_reducible refine (chVB hb R C6).mono ?_ | with_reducible refine (chVB hb R C8).mono ?_));clear hb;rintro e w1 ⟨rfl,hk,hb⟩;clear Ag Ah Ai Aj Ak Al Aa Ab Ac Ad Ae Af;replace a0:=zB hk a0;replace a1:=zB hk a1;replace a2:=zB hk a2;obtain ⟨Ag,Ah,Ai⟩:=ce3 a0;obtain ⟨Aj,Ak,Al⟩:=ce3 a1;obtain ⟨Aa,Ad,Ab,Ae,Ac,Af⟩:=cf3 a2;clear hk) | (go_at_call 68;with_reducible refine (zL hb (C3.out _ (R.below hb))).mono ?_;clear hb;rintro e w1 ⟨rfl,hk,hb⟩;clear Aa Ab Ac Ad Ae Af;replace a2:=zB hk a2;obtain ⟨Aa,Ad,Ab,Ae,Ac,Af⟩:=cf3 a2;clear hk))
 refine bodyPost_ret (v:=.tuple #[.agg #[.string A0,.string Az,.string ⟨#[49]⟩],.int .i64 0]) (by simp [results,Tryz.results38,go_sem,Aa,Ab,Ac]) rfl ⟨rfl,?_⟩
 repeat' (first | exact hb | refine Below.setCell ?_ (by first | exact Nat.le_refl _ | (dsimp only;omega)) _)
theorem ldiv_any (a c:Rat) (r1:c≠0) (r2:RL a 10000) (r3:RL c 10000) (w:World) (R:EnvV w) :
   Calls Tryz.prog 34 #[.string (ratB a),.string (ratB c)] w (Ret w (.string (ratB (a / c)))):=by
 have c1:=fun (w:World) (R:EnvV w)=>rdiv_any a c r2 r3 r1 w R.toEnvR
 have C1:=Lib.hid c1
 clear c1 r1 r2 r3
 have hb:=Below.refl w.heap.size w
 go_enter Tryz.func34,Tryz.ntmps34
 go_wp2_with (go_at_call 66;with_reducible refine (chVB hb R C1).mono ?_;clear hb;rintro e w1 ⟨rfl,hk,hb⟩;clear hk)
 first | go_ret | go_ret2 | go_ret3
 exact ⟨rfl,hb⟩
theorem lfall_any (a b c x y:Rat) (r1:RL a 10000) (r2:RL x 10000) (r3:RL b 10000) (r4:RL y 10000) (r5:RL (a*x) 10000) (r6:RL (b*y) 10000) (r7:c≠0) (r8:RL ((a*x)+(b*y)) 10000) (r9:RL c 10000) (w:World) (R:EnvV w) :
   Calls Tryz.prog 37 #[.agg #[.string (ratB a),.string (ratB b),.string (ratB c)],.agg #[.string (ratB x),.string (ratB y)]] w (Ret w (.string (ratB (((a*x)+(b*y)) / c)))):=by
 have c1:=fun (w:World) (R:EnvV w)=>rmul_any a x r1 r2 w R.toEnvR
 have c2:=fun (w:World) (R:EnvV w)=>rmul_any b y r3 r4 w R.toEnvR
 have c3:=fun (w:World) (R:EnvV w)=>radd_any (a*x) (b*y) r5 r6 w R.toEnvR
 have c4:=ldiv_any ((a*x)+(b*y)) c r7 r8 r9
 obtain ⟨Ax,Aa⟩:∃ vq,ratB (((a*x)+(b*y)) / c)=vq:=⟨_,rfl⟩
 obtain ⟨Ay,Ab⟩:∃ vq,ratB ((a*x)+(b*y))=vq:=⟨_,rfl⟩
 obtain ⟨Az,Ac⟩:∃ vq,ratB (a*x)=vq:=⟨_,rfl⟩
 obtain ⟨A0,Ad⟩:∃ vq,ratB (b*y)=vq:=⟨_,rfl⟩
 obtain ⟨A1,Ae⟩:∃ vq,ratB a=vq:=⟨_,rfl⟩
 obtain ⟨A2,Af⟩:∃ vq,ratB b=vq:=⟨_,rfl⟩
 obtain ⟨A3,Ag⟩:∃ vq,ratB c=vq:=⟨_,rfl⟩
 obtain ⟨A4,Ah⟩:∃ vq,ratB x=vq:=⟨_,rfl⟩
 obtain ⟨A5,Ai⟩:∃ vq,ratB y=vq:=⟨_,rfl⟩
 try simp only [Aa,Ab,Ac,Ad,Ae,Af,Ag,Ah,Ai] at c1 c2 c3 c4 ⊢
 have C1:=Lib.hid c1
 have C2:=Lib.hid c2
 have C3:=Lib.hid c3
 have C4:=Lib.hid c4
 clear c1 c2 c3 c4 Aa Ab Ac Ad Ae Af Ag Ah Ai r1 r2 r3 r4 r5 r6 r7 r8 r9
 have hb:=Below.refl w.heap.size w
 go_enter Tryz.func37,Tryz.ntmps37
 go_upto_region 1 with fail
 refine wp_alloc2 (fun w1 a0 a1 hk=>?_)
 replace hb:=hb.trans (hk.mono hb.size)
 clear hk
 obtain ⟨Aj,Ak,Al⟩:=ce3 a0
 obtain ⟨Am,An⟩:=ce2 a1
 go_upto_region 1 with fail
 obtain ⟨As,At,Au⟩:=cy3 a0
 obtain ⟨Av,Aw⟩:=cy2 a1
 have Ao:=rrV C1 R hb
 have Ap:=rrV C2 R hb
 have Aq:=rrV C3 R hb
 have Ar:=rrV C4 R hb
 refine wp_region_quiet_below (by first | assumption | kernel_rfl) (by kernel_rfl) ?_
 repeat (quiet_step (first | (with_reducible exact Ao.out _ _) | (with_reducible exact Ap.out _ _) | (with_reducible exact Aq.out _ _) | (with_reducible exact Ar.out _ _)))
 refine wpQuiet_nil ?_
 intro w1 hw'
 obtain ⟨hk,hb⟩:=zQ hb hw'
 clear Aj Ak Al Am An
 replace a0:=zB hk a0
 replace a1:=zB hk a1
 obtain ⟨Aj,Ak,Al⟩:=ce3 a0
 obtain ⟨Am,An⟩:=ce2 a1
 clear Ao Ap Aq Ar As At Au Av Aw
 clear hk hw'
 go_wp2
 first | go_ret | go_ret2 | go_ret3
 exact ⟨rfl,hb⟩
theorem fnz_r (v:Int):firstNZ [v,0]=v:=by
 by_cases h:v=0
 · subst h;decide
 · exact firstNZ_at [v,0] 0 v (fun y hy=>by simp at hy) rfl h
theorem fnz_l (v:Int):firstNZ [0,v]=v:=by
 by_cases h:v=0
 · subst h;decide
 · exact firstNZ_at [0,v] 1 v (fun y hy=>by simpa using hy) rfl h
theorem fnz_1 (v x:Int) (h:v≠0):firstNZ [v,x]=v:=firstNZ_at [v,x] 0 v (fun y hy=>by simp at hy) rfl h
end Go.Proofs.YtejfiegmdllfbaaGreatDoor.Kl
