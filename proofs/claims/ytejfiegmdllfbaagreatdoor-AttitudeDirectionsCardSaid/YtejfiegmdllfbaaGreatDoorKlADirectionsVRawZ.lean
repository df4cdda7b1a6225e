import Derived.Test.YtejfiegmdllfbaaGreatDoorKlADirectionsQMid
import Derived.Test.YtejfiegmdllfbaaGreatDoorKlADirectionsVMZ
import Derived.Test.YtejfiegmdllfbaaGreatDoorKlBVYZ
namespace Go.Proofs.YtejfiegmdllfbaaGreatDoor.Kl
open Go Go.RowKit
set_option maxRecDepth 100000
set_option maxHeartbeats 8000000
theorem rat_of {s:ByteArray} (h:IsRat s.data.toList):∃ q:Rat,s=ratB q∧RL q 200:=by
 obtain ⟨q,e,hq⟩:=h
 refine ⟨q,?_,hq⟩
 unfold ratB strOf
 rw [← e]
theorem check3_raw  (a b c:ByteArray) (v:Int) (h0:(IsRat a.data.toList∧IsRat b.data.toList∧IsRat c.data.toList)→v=0) (h2:¬ (IsRat a.data.toList∧IsRat b.data.toList∧IsRat c.data.toList)→v=2) (za:a.size≤100000) (zb:b.size≤100000) (zc:c.size≤100000) (w:World) (R:EnvV w) :
   Calls Tryz.prog 86 #[.agg #[.string a,.string b,.string c]] w (Ret w (.int .i64 v)):=by
 have c1:=fun (w:World) (R:EnvV w)=>numCheck3 a b c v h0 h2 za zb zc w R.toEnvR
 have C1:=Lib.hid c1
 clear c1 h0 h2 za zb zc
 have hb:=Below.refl w.heap.size w
 go_enter Tryz.func86,Tryz.ntmps86
 go_upto_region 1 with fail
 refine wp_alloc1 (fun w1 a0 hk=>?_)
 replace hb:=hb.trans (hk.mono hb.size)
 clear hk
 obtain ⟨Aa,Ab,Ac⟩:=ce3 a0
 go_wp2_with (go_at_call 114;with_reducible refine (zL hb (C1.out _ (R.below hb))).mono ?_;clear hb;rintro e w1 ⟨rfl,hk,hb⟩;clear Aa Ab Ac;replace a0:=zB hk a0;obtain ⟨Aa,Ab,Ac⟩:=ce3 a0;clear hk)
 first | go_ret | go_ret2 | go_ret3
 exact ⟨rfl,hb⟩
theorem right02  (s:ByteArray) (r:Bool) (hr:r=true↔IsRat s.data.toList) (zs:s.size≤100000) (w:World) (R:EnvV w) :
   Calls Tryz.prog 55 #[.string s] w (Ret w (.bool r)):=by
 have c1:=fun (w:World) (R:EnvV w)=>refRRight_any s r hr zs w R.toEnvR
 have C1:=Lib.hid c1
 clear c1 hr zs
 have hb:=Below.refl w.heap.size w
 go_enter Tryz.func55,Tryz.ntmps55
 go_wp2_with (go_at_call 96;with_reducible refine (chVB hb R C1).mono ?_;clear hb;rintro e w1 ⟨rfl,hk,hb⟩;clear hk)
 first | go_ret | go_ret2 | go_ret3
 exact ⟨rfl,hb⟩
theorem rightL_w (blk n c:Nat) (ts:List ByteArray) (hn:ts.length=n) (hnb:n≤10) (r:Bool) (hr:r=true↔∀ t,t ∈ ts→IsRat t.data.toList) (w:World) (R:EnvV w)
   (hm:∀ t,t ∈ ts→t.size≤100000) (hc:∀ (j:Nat) (t:ByteArray),ts[j]? = some t→w.cell? ⟨blk,j,none⟩=some (.string t)) :
   Calls Tryz.prog 21 #[.slice (some ⟨blk,0,none⟩) n c] w (Ret w (.bool r)):=by
 have HC:=Lib.hid hc
 have HM:=Lib.hid hm
 have HR:=Lib.hid hr
 have HN:=Lib.hid hn
 clear hc hm hr hn
 go_enter Tryz.func21,Tryz.ntmps21
 go_wp2
 go_loopw [3] (fun i wr=>∃ k:Nat,k≤n∧i = .int .i64 k∧(∀ t,t ∈ ts.take k→IsRat t.data.toList)∧Below w.heap.size w wr) (fun i _=>n - (intOf i).toNat)
 case atStart=>exact ⟨0,Nat.zero_le _,rfl,by simp,Below.refl _ _⟩
 case round =>
   obtain ⟨k,hk,rfl,hall,hb⟩:=hrel
   have HA:=Lib.hid hall
   clear hall
   by_cases hlt:k < n
   · obtain ⟨t,ht⟩:∃ t,ts[k]? = some t:=⟨_,List.getElem?_eq_getElem (by rw [HN.out];exact hlt)⟩
     have x0:wr.cell? ⟨blk,k,none⟩=some (.string t):=zC hb (HC.out k t ht)
     have hmem:t ∈ ts:=List.mem_of_getElem? ht
     have hms:=HM.out t hmem
     have HMEM:=Lib.hid hmem
     have htk:∀ u,u ∈ ts.take (k+1)→u ∈ ts.take k∨u=t:=by
       intro u hu
       rw [List.take_add_one,ht] at hu
       rcases List.mem_append.1 hu with h | h
       · exact Or.inl h
       · exact Or.inr (by simpa using h)
     have HT:=Lib.hid htk
     clear hmem htk ht
     by_cases hi:IsRat t.data.toList
     · have CR:=Lib.hid (fun (w:World) (R:EnvV w)=>right02 t true ⟨fun _=>hi,fun _=>rfl⟩ hms w R)
       have HF:Hid (IsRat t.data.toList):=Lib.hid hi
       clear hi
       go_wp2_with (go_at_call 55;with_reducible refine (chVB hb R CR).mono ?_;clear hb;rintro e w1 ⟨rfl,hk2,hb⟩;clear hk2)
       go_roundw
       case rel=>exact ⟨k+1,by omega,by go_num,fun u hu=>(HT.out u hu).elim (HA.out u) (fun e=>e ▸ HF.out),hb⟩
       case measure=>simp [intOf];omega
     · have CR:=Lib.hid (fun (w:World) (R:EnvV w)=>right02 t false ⟨(fun h=>by cases h),fun h=>absurd h hi⟩ hms w R)
       have hf:r=false:=Bool.eq_false_iff.2 (fun h=>hi (HR.out.1 h t HMEM.out))
       clear hi
       go_wp2_with (go_at_call 55;with_reducible refine (chVB hb R CR).mono ?_;clear hb;rintro e w1 ⟨rfl,hk2,hb⟩;clear hk2)
       go_ret
       exact ⟨retBo hf.symm,hb⟩
   · have ek:k=n:=by omega
     have ht:r=true:=HR.out.2 (fun t ht=>HA.out t (by rw [List.take_of_length_le (by rw [HN.out];omega)];exact ht))
     go_wp2
     go_ret
     exact ⟨retBo ht.symm,hb⟩
theorem shortL_w (blk n c:Nat) (ts:List ByteArray) (hn:ts.length=n) (hnb:n≤10) (r:Bool) (hr:r=true↔∀ t,t ∈ ts→t.size≤24) (w:World)
   (hm:∀ t,t ∈ ts→t.size≤9223372036854775807) (hc:∀ (j:Nat) (t:ByteArray),ts[j]? = some t→w.cell? ⟨blk,j,none⟩=some (.string t)) :
   Calls Tryz.prog 12 #[.slice (some ⟨blk,0,none⟩) n c] w (Ret w (.bool r)):=by
 have HC:=Lib.hid hc
 have HM:=Lib.hid hm
 have HR:=Lib.hid hr
 have HN:=Lib.hid hn
 clear hc hm hr hn
 go_enter Tryz.func12,Tryz.ntmps12
 go_wp2
 go_loopw [3] (fun i wr=>∃ k:Nat,k≤n∧i = .int .i64 k∧(∀ t,t ∈ ts.take k→t.size≤24)∧Below w.heap.size w wr) (fun i _=>n - (intOf i).toNat)
 case atStart=>exact ⟨0,Nat.zero_le _,rfl,by simp,Below.refl _ _⟩
 case round =>
   obtain ⟨k,hk,rfl,hall,hb⟩:=hrel
   have HA:=Lib.hid hall
   clear hall
   by_cases hlt:k < n
   · obtain ⟨t,ht⟩:∃ t,ts[k]? = some t:=⟨_,List.getElem?_eq_getElem (by rw [HN.out];exact hlt)⟩
     have x0:wr.cell? ⟨blk,k,none⟩=some (.string t):=zC hb (HC.out k t ht)
     have hmem:t ∈ ts:=List.mem_of_getElem? ht
     have hms:=HM.out t hmem
     have HMEM:=Lib.hid hmem
     have htk:∀ u,u ∈ ts.take (k+1)→u ∈ ts.take k∨u=t:=by
       intro u hu
       rw [List.take_add_one,ht] at hu
       rcases List.mem_append.1 hu with h | h
       · exact Or.inl h
       · exact Or.inr (by simpa using h)
     have HT:=Lib.hid htk
     clear hmem htk ht
     by_cases hi:t.size≤24
     · have HF:=Lib.hid hi
       go_wp2
       go_roundw
       case rel=>exact ⟨k+1,by omega,by go_num,fun u hu=>(HT.out u hu).elim (HA.out u) (fun e=>e ▸ HF.out),hb⟩
       case measure=>simp [intOf];omega
     · have hf:r=false:=Bool.eq_false_iff.2 (fun h=>hi (HR.out.1 h t HMEM.out))
       have HF:=Lib.hid hf
       clear hf
       go_wp2
       go_ret
       exact ⟨retBo HF.out.symm,hb⟩
   · have ek:k=n:=by omega
     have ht:r=true:=HR.out.2 (fun t ht=>HA.out t (by rw [List.take_of_length_le (by rw [HN.out];omega)];exact ht))
     have HF:=Lib.hid ht
     clear ht
     go_wp2
     go_ret
     exact ⟨retBo HF.out.symm,hb⟩
set_option maxRecDepth 512 in
theorem right2 (s0 s1:ByteArray) (r:Bool) (hr:r=true↔(IsRat s0.data.toList∧IsRat s1.data.toList)) (z0:s0.size≤100000) (z1:s1.size≤100000) (w:World) (R:EnvV w) :
   Calls Tryz.prog 21 #[.slice (some ⟨w.heap.size,0,none⟩) 2 2] (w.alloc (Obj.cells #[Value.string s0,Value.string s1] 22)) (Ret w (.bool r)):=by
 have hba:Below w.heap.size w (w.alloc (Obj.cells #[Value.string s0,Value.string s1] 22)):=(Below.refl _ _).alloc (Nat.le_refl _) _
 have he:(IsRat s0.data.toList∧IsRat s1.data.toList)↔(∀ t,t ∈ [s0,s1]→IsRat t.data.toList):=by
   constructor
   · rintro ⟨h0,h1⟩ t h
     simp only [List.mem_cons,List.not_mem_nil,or_false] at h
     rcases h with rfl | rfl <;> assumption
   · intro h
     exact ⟨h s0 (by simp),h s1 (by simp)⟩
 have hz:∀ t,t ∈ [s0,s1]→t.size≤100000:=by
   intro t h
   simp only [List.mem_cons,List.not_mem_nil,or_false] at h
   rcases h with rfl | rfl <;> assumption
 refine (rightL_w w.heap.size 2 2 [s0,s1] rfl (by decide) r (hr.trans he) _ (R.below hba) hz ?_).mono fun e w' h=>⟨h.1,hba.trans (h.2.mono hba.size)⟩
 intro j t h
 match j,h with
 | 0,h=>injection h with h;subst h;simp [go_sem]
 | 1,h=>injection h with h;subst h;simp [go_sem]
 | j+2,h=>simp at h
set_option maxRecDepth 512 in
theorem right3 (s0 s1 s2:ByteArray) (r:Bool) (hr:r=true↔(IsRat s0.data.toList∧IsRat s1.data.toList∧IsRat s2.data.toList)) (z0:s0.size≤100000) (z1:s1.size≤100000) (z2:s2.size≤100000) (w:World) (R:EnvV w) :
   Calls Tryz.prog 21 #[.slice (some ⟨w.heap.size,0,none⟩) 3 3] (w.alloc (Obj.cells #[Value.string s0,Value.string s1,Value.string s2] 22)) (Ret w (.bool r)):=by
 have hba:Below w.heap.size w (w.alloc (Obj.cells #[Value.string s0,Value.string s1,Value.string s2] 22)):=(Below.refl _ _).alloc (Nat.le_refl _) _
 have he:(IsRat s0.data.toList∧IsRat s1.data.toList∧IsRat s2.data.toList)↔(∀ t,t ∈ [s0,s1,s2]→IsRat t.data.toList):=by
   constructor
   · rintro ⟨h0,h1,h2⟩ t h
     simp only [List.mem_cons,List.not_mem_nil,or_false] at h
     rcases h with rfl | rfl | rfl <;> assumption
   · intro h
     exact ⟨h s0 (by simp),h s1 (by simp),h s2 (by simp)⟩
 have hz:∀ t,t ∈ [s0,s1,s2]→t.size≤100000:=by
   intro t h
   simp only [List.mem_cons,List.not_mem_nil,or_false] at h
   rcases h with rfl | rfl | rfl <;> assumption
 refine (rightL_w w.heap.size 3 3 [s0,s1,s2] rfl (by decide) r (hr.trans he) _ (R.below hba) hz ?_).mono fun e w' h=>⟨h.1,hba.trans (h.2.mono hba.size)⟩
 intro j t h
 match j,h with
 | 0,h=>injection h with h;subst h;simp [go_sem]
 | 1,h=>injection h with h;subst h;simp [go_sem]
 | 2,h=>injection h with h;subst h;simp [go_sem]
 | j+3,h=>simp at h
set_option maxRecDepth 512 in
theorem short3 (s0 s1 s2:ByteArray) (r:Bool) (hr:r=true↔(s0.size≤24∧s1.size≤24∧s2.size≤24)) (z0:s0.size≤9223372036854775807) (z1:s1.size≤9223372036854775807) (z2:s2.size≤9223372036854775807) (w:World) (_R:EnvV w) :
   Calls Tryz.prog 12 #[.slice (some ⟨w.heap.size,0,none⟩) 3 3] (w.alloc (Obj.cells #[Value.string s0,Value.string s1,Value.string s2] 22)) (Ret w (.bool r)):=by
 have hba:Below w.heap.size w (w.alloc (Obj.cells #[Value.string s0,Value.string s1,Value.string s2] 22)):=(Below.refl _ _).alloc (Nat.le_refl _) _
 have he:(s0.size≤24∧s1.size≤24∧s2.size≤24)↔(∀ t,t ∈ [s0,s1,s2]→t.size≤24):=by
   constructor
   · rintro ⟨h0,h1,h2⟩ t h
     simp only [List.mem_cons,List.not_mem_nil,or_false] at h
     rcases h with rfl | rfl | rfl <;> assumption
   · intro h
     exact ⟨h s0 (by simp),h s1 (by simp),h s2 (by simp)⟩
 have hz:∀ t,t ∈ [s0,s1,s2]→t.size≤9223372036854775807:=by
   intro t h
   simp only [List.mem_cons,List.not_mem_nil,or_false] at h
   rcases h with rfl | rfl | rfl <;> assumption
 refine (shortL_w w.heap.size 3 3 [s0,s1,s2] rfl (by decide) r (hr.trans he) _ hz ?_).mono fun e w' h=>⟨h.1,hba.trans (h.2.mono hba.size)⟩
 intro j t h
 match j,h with
 | 0,h=>injection h with h;subst h;simp [go_sem]
 | 1,h=>injection h with h;subst h;simp [go_sem]
 | 2,h=>injection h with h;subst h;simp [go_sem]
 | j+3,h=>simp at h
theorem q_m1 (a:Rat):a * -1 = -a:=by grind
def NErr (a b c:ByteArray) (v:Int):Prop:=(¬ (IsRat a.data.toList∧IsRat b.data.toList∧IsRat c.data.toList)∧v=2)∨((a=⟨#[48]⟩∧b=⟨#[48]⟩∧c=⟨#[48]⟩)∧v=17)
theorem NErr.ne {a b c:ByteArray} {v:Int} (h:NErr a b c v):v≠0:=by rcases h with ⟨_,rfl⟩ | ⟨_,rfl⟩ <;> decide
theorem ver_t (a b c:Rat) (q0:c=0) (w:World) (_R:EnvV w) :
   Calls Tryz.prog 47 #[.agg #[.string (ratB a),.string (ratB b),.string (ratB c)]] w (Ret w (.bool true)):=by
 have eq0:((ratB c).toList == [48])=true:=by rw [ratB_eq_zero];exact decide_eq_true q0
 have pq0:(ratB c).toList=[48]:=(zero_iff _).2 q0
 clear q0
 have hb:=Below.refl w.heap.size w
 go_enter Tryz.func47,Tryz.ntmps47
 go_upto_region 1 with fail
 refine wp_alloc1 (fun w1 a0 hk=>?_)
 replace hb:=hb.trans (hk.mono hb.size)
 clear hk
 obtain ⟨Aa,Ab,Ac⟩:=ce3 a0
 go_wp2
 first | go_ret | go_ret2 | go_ret3
 exact ⟨rfl,hb⟩
theorem ov_t (a b c:Rat) (rc:RL c 200) (q0:c.num.sign < 0) (w:World) (R:EnvV w) :
   Calls Tryz.prog 45 #[.agg #[.string (ratB a),.string (ratB b),.string (ratB c)]] w (Ret w (.bool true)):=by
 have c1:=fun (w:World) (R:EnvV w)=>rsign_any c (rc.mono (by decide)) w R.toEnvR
 have g0:c.num.sign < 0:=q0
 obtain ⟨Ae,Aa⟩:∃ vq,ratB c=vq:=⟨_,rfl⟩
 try simp only [Aa] at c1 g0 ⊢
 obtain ⟨sg,esg⟩:∃ vq,c.num.sign=vq:=⟨_,rfl⟩
 try simp only [esg] at c1 g0 ⊢
 have C1:=Lib.hid c1
 clear c1 Aa esg q0 rc
 have hb:=Below.refl w.heap.size w
 go_enter Tryz.func45,Tryz.ntmps45
 go_upto_region 1 with fail
 refine wp_alloc1 (fun w1 a0 hk=>?_)
 replace hb:=hb.trans (hk.mono hb.size)
 clear hk
 obtain ⟨Ab,Ac,Ad⟩:=ce3 a0
 go_wp2_with (go_at_call 17;with_reducible refine (chVB hb R C1).mono ?_;clear hb;rintro e w1 ⟨rfl,hk,hb⟩;clear Ab Ac Ad;replace a0:=zB hk a0;obtain ⟨Ab,Ac,Ad⟩:=ce3 a0;clear hk)
 first | go_ret | go_ret2 | go_ret3
 first | exact ⟨rfl,hb⟩ | exact ⟨retBo (decide_eq_true (by omega)),hb⟩
theorem zero_t (a b c:Rat) (q0:a=0) (q1:b=0) (q2:c=0) (w:World) (R:EnvV w) :
   Calls Tryz.prog 89 #[.agg #[.string (ratB a),.string (ratB b),.string (ratB c)]] w (Ret w (.bool true)):=by
 have c1:=hor_t a b c q0 q1
 have c2:=ver_t a b c q2
 obtain ⟨Ag,Aa⟩:∃ vq,ratB a=vq:=⟨_,rfl⟩
 obtain ⟨Ah,Ab⟩:∃ vq,ratB b=vq:=⟨_,rfl⟩
 obtain ⟨Ai,Ac⟩:∃ vq,ratB c=vq:=⟨_,rfl⟩
 try simp only [Aa,Ab,Ac] at c1 c2 ⊢
 have C1:=Lib.hid c1
 have C2:=Lib.hid c2
 clear c1 c2 Aa Ab Ac q0 q1 q2
 have hb:=Below.refl w.heap.size w
 go_enter Tryz.func89,Tryz.ntmps89
 go_upto_region 1 with fail
 refine wp_alloc1 (fun w1 a0 hk=>?_)
 replace hb:=hb.trans (hk.mono hb.size)
 clear hk
 obtain ⟨Ad,Ae,Af⟩:=ce3 a0
 go_wp2_with ((first | (go_at_call 46;with_reducible refine (chVB hb R C1).mono ?_) | (go_at_call 47;with_reducible refine (chVB hb R C2).mono ?_));clear hb;rintro e w1 ⟨rfl,hk,hb⟩;clear Ad Ae Af;replace a0:=zB hk a0;obtain ⟨Ad,Ae,Af⟩:=ce3 a0;clear hk)
 first | go_ret | go_ret2 | go_ret3
 exact ⟨rfl,hb⟩
theorem acheck_z (a b c:Rat) (q0:a=0) (q1:b=0) (q2:c=0) (ra:RL a 200) (rb:RL b 200) (rc:RL c 200) (w:World) (R:EnvV w) :
   Calls Tryz.prog 83 #[.agg #[.string (ratB a),.string (ratB b),.string (ratB c)]] w (Ret w (.int .i64 17)):=by
 have c1:=fun (w:World) (R:EnvV w)=>vcheck_ok a b c ra rb rc w R.toEnvR
 have c2:=zero_t a b c q0 q1 q2
 obtain ⟨Ag,Aa⟩:∃ vq,ratB a=vq:=⟨_,rfl⟩
 obtain ⟨Ah,Ab⟩:∃ vq,ratB b=vq:=⟨_,rfl⟩
 obtain ⟨Ai,Ac⟩:∃ vq,ratB c=vq:=⟨_,rfl⟩
 try simp only [Aa,Ab,Ac] at c1 c2 ⊢
 have C1:=Lib.hid c1
 have C2:=Lib.hid c2
 clear c1 c2 Aa Ab Ac q0 q1 q2 ra rb rc
 have hb:=Below.refl w.heap.size w
 go_enter Tryz.func83,Tryz.ntmps83
 go_upto_region 1 with fail
 refine wp_alloc1 (fun w1 a0 hk=>?_)
 replace hb:=hb.trans (hk.mono hb.size)
 clear hk
 obtain ⟨Ad,Ae,Af⟩:=ce3 a0
 go_wp2_with ((first | (go_at_call 86;with_reducible refine (chVB hb R C1).mono ?_) | (go_at_call 89;with_reducible refine (chVB hb R C2).mono ?_));clear hb;rintro e w1 ⟨rfl,hk,hb⟩;clear Ad Ae Af;replace a0:=zB hk a0;obtain ⟨Ad,Ae,Af⟩:=ce3 a0;clear hk)
 first | go_ret | go_ret2 | go_ret3
 exact ⟨rfl,hb⟩
theorem acheck_bad  (ta tb tc:ByteArray) (h:¬ (IsRat ta.data.toList∧IsRat tb.data.toList∧IsRat tc.data.toList)) (za:ta.size≤100000) (zb:tb.size≤100000) (zc:tc.size≤100000) (w:World) (R:EnvV w) :
   Calls Tryz.prog 83 #[.agg #[.string ta,.string tb,.string tc]] w (Ret w (.int .i64 2)):=by
 have c1:CV 86 #[.agg #[.string ta,.string tb,.string tc]] (.int .i64 2):=fun w R=>check3_raw ta tb tc 2 (fun k=>absurd k h) (fun _=>rfl) za zb zc w R
 have C1:=Lib.hid c1
 clear c1 h za zb zc
 have hb:=Below.refl w.heap.size w
 go_enter Tryz.func83,Tryz.ntmps83
 go_upto_region 1 with fail
 refine wp_alloc1 (fun w1 a0 hk=>?_)
 replace hb:=hb.trans (hk.mono hb.size)
 clear hk
 obtain ⟨Aa,Ab,Ac⟩:=ce3 a0
 go_wp2_with (go_at_call 86;with_reducible refine (chVB hb R C1).mono ?_;clear hb;rintro e w1 ⟨rfl,hk,hb⟩;clear Aa Ab Ac;replace a0:=zB hk a0;obtain ⟨Aa,Ab,Ac⟩:=ce3 a0;clear hk)
 first | go_ret | go_ret2 | go_ret3
 exact ⟨rfl,hb⟩
theorem acheck_err (ta tb tc:ByteArray) (v:Int) (h:NErr ta tb tc v) (za:ta.size≤100000) (zb:tb.size≤100000) (zc:tc.size≤100000) (w:World) (R:EnvV w) :
   Calls Tryz.prog 83 #[.agg #[.string ta,.string tb,.string tc]] w (Ret w (.int .i64 v)):=by
 rcases h with ⟨h,rfl⟩ | ⟨⟨rfl,rfl,rfl⟩,rfl⟩
 · exact acheck_bad ta tb tc h za zb zc w R
 · have h:=acheck_z 0 0 0 rfl rfl rfl (rn_0.rl) (rn_0.rl) (rn_0.rl) w R
   rwa [rb_0] at h
theorem normal_0 (a b c:Rat) (ra:RL a 200) (rb:RL b 200) (rc:RL c 200) (q0:a≠0) (w:World) (R:EnvV w) :
   Calls Tryz.prog 16 #[.agg #[.string (ratB a),.string (ratB b),.string (ratB c)]] w (Ret w (.int .i64 0)):=by
 have c1:∀ w,EnvV w→Calls Tryz.prog 21 #[.slice (some ⟨w.heap.size,0,none⟩) 3 3] (w.alloc (Obj.cells #[Value.string (ratB a),Value.string (ratB b),Value.string (ratB c)] 22)) (Ret w (.bool true)):=fun w R=>right3 _ _ _ true ⟨fun _=>⟨isRat_of ra,isRat_of rb,isRat_of rc⟩,fun _=>rfl⟩ (Nat.le_trans (size_of_RL ra) (by decide)) (Nat.le_trans (size_of_RL rb) (by decide)) (Nat.le_trans (size_of_RL rc) (by decide)) w R
 have eq0:((ratB a).toList == [48])=false:=by rw [ratB_eq_zero];exact decide_eq_false q0
 have pq0:¬ (ratB a).toList=[48]:=fun h=>q0 ((zero_iff _).1 h)
 have C1:=Lib.hid c1
 clear c1 q0 ra rb rc
 have hb:=Below.refl w.heap.size w
 go_enter Tryz.func16,Tryz.ntmps16
 go_upto_region 1 with fail
 refine wp_alloc1 (fun w1 a0 hk=>?_)
 replace hb:=hb.trans (hk.mono hb.size)
 clear hk
 obtain ⟨Aa,Ab,Ac⟩:=ce3 a0
 go_wp2_with (go_at_call 21;with_reducible refine (zL hb (C1.out _ (R.below hb))).mono ?_;clear hb;rintro e w1 ⟨rfl,hk,hb⟩;clear Aa Ab Ac;replace a0:=zB hk a0;obtain ⟨Aa,Ab,Ac⟩:=ce3 a0;clear hk)
 first | go_ret | go_ret2 | go_ret3
 exact ⟨rfl,hb⟩
theorem normal_1 (a b c:Rat) (ra:RL a 200) (rb:RL b 200) (rc:RL c 200) (q0:a=0) (q1:b≠0) (w:World) (R:EnvV w) :
   Calls Tryz.prog 16 #[.agg #[.string (ratB a),.string (ratB b),.string (ratB c)]] w (Ret w (.int .i64 0)):=by
 have c1:∀ w,EnvV w→Calls Tryz.prog 21 #[.slice (some ⟨w.heap.size,0,none⟩) 3 3] (w.alloc (Obj.cells #[Value.string (ratB a),Value.string (ratB b),Value.string (ratB c)] 22)) (Ret w (.bool true)):=fun w R=>right3 _ _ _ true ⟨fun _=>⟨isRat_of ra,isRat_of rb,isRat_of rc⟩,fun _=>rfl⟩ (Nat.le_trans (size_of_RL ra) (by decide)) (Nat.le_trans (size_of_RL rb) (by decide)) (Nat.le_trans (size_of_RL rc) (by decide)) w R
 have eq0:((ratB a).toList == [48])=true:=by rw [ratB_eq_zero];exact decide_eq_true q0
 have pq0:(ratB a).toList=[48]:=(zero_iff _).2 q0
 have eq1:((ratB b).toList == [48])=false:=by rw [ratB_eq_zero];exact decide_eq_false q1
 have pq1:¬ (ratB b).toList=[48]:=fun h=>q1 ((zero_iff _).1 h)
 have C1:=Lib.hid c1
 clear c1 q0 q1 ra rb rc
 have hb:=Below.refl w.heap.size w
 go_enter Tryz.func16,Tryz.ntmps16
 go_upto_region 1 with fail
 refine wp_alloc1 (fun w1 a0 hk=>?_)
 replace hb:=hb.trans (hk.mono hb.size)
 clear hk
 obtain ⟨Aa,Ab,Ac⟩:=ce3 a0
 go_wp2_with (go_at_call 21;with_reducible refine (zL hb (C1.out _ (R.below hb))).mono ?_;clear hb;rintro e w1 ⟨rfl,hk,hb⟩;clear Aa Ab Ac;replace a0:=zB hk a0;obtain ⟨Aa,Ab,Ac⟩:=ce3 a0;clear hk)
 first | go_ret | go_ret2 | go_ret3
 exact ⟨rfl,hb⟩
theorem normal_2 (a b c:Rat) (ra:RL a 200) (rb:RL b 200) (rc:RL c 200) (q0:a=0) (q1:b=0) (q2:c≠0) (w:World) (R:EnvV w) :
   Calls Tryz.prog 16 #[.agg #[.string (ratB a),.string (ratB b),.string (ratB c)]] w (Ret w (.int .i64 0)):=by
 have c1:∀ w,EnvV w→Calls Tryz.prog 21 #[.slice (some ⟨w.heap.size,0,none⟩) 3 3] (w.alloc (Obj.cells #[Value.string (ratB a),Value.string (ratB b),Value.string (ratB c)] 22)) (Ret w (.bool true)):=fun w R=>right3 _ _ _ true ⟨fun _=>⟨isRat_of ra,isRat_of rb,isRat_of rc⟩,fun _=>rfl⟩ (Nat.le_trans (size_of_RL ra) (by decide)) (Nat.le_trans (size_of_RL rb) (by decide)) (Nat.le_trans (size_of_RL rc) (by decide)) w R
 have eq0:((ratB a).toList == [48])=true:=by rw [ratB_eq_zero];exact decide_eq_true q0
 have pq0:(ratB a).toList=[48]:=(zero_iff _).2 q0
 have eq1:((ratB b).toList == [48])=true:=by rw [ratB_eq_zero];exact decide_eq_true q1
 have pq1:(ratB b).toList=[48]:=(zero_iff _).2 q1
 have eq2:((ratB c).toList == [48])=false:=by rw [ratB_eq_zero];exact decide_eq_false q2
 have pq2:¬ (ratB c).toList=[48]:=fun h=>q2 ((zero_iff _).1 h)
 have C1:=Lib.hid c1
 clear c1 q0 q1 q2 ra rb rc
 have hb:=Below.refl w.heap.size w
 go_enter Tryz.func16,Tryz.ntmps16
 go_upto_region 1 with fail
 refine wp_alloc1 (fun w1 a0 hk=>?_)
 replace hb:=hb.trans (hk.mono hb.size)
 clear hk
 obtain ⟨Aa,Ab,Ac⟩:=ce3 a0
 go_wp2_with (go_at_call 21;with_reducible refine (zL hb (C1.out _ (R.below hb))).mono ?_;clear hb;rintro e w1 ⟨rfl,hk,hb⟩;clear Aa Ab Ac;replace a0:=zB hk a0;obtain ⟨Aa,Ab,Ac⟩:=ce3 a0;clear hk)
 first | go_ret | go_ret2 | go_ret3
 exact ⟨rfl,hb⟩
theorem normal_z (a b c:Rat) (ra:RL a 200) (rb:RL b 200) (rc:RL c 200) (q0:a=0) (q1:b=0) (q2:c=0) (w:World) (R:EnvV w) :
   Calls Tryz.prog 16 #[.agg #[.string (ratB a),.string (ratB b),.string (ratB c)]] w (Ret w (.int .i64 17)):=by
 have c1:∀ w,EnvV w→Calls Tryz.prog 21 #[.slice (some ⟨w.heap.size,0,none⟩) 3 3] (w.alloc (Obj.cells #[Value.string (ratB a),Value.string (ratB b),Value.string (ratB c)] 22)) (Ret w (.bool true)):=fun w R=>right3 _ _ _ true ⟨fun _=>⟨isRat_of ra,isRat_of rb,isRat_of rc⟩,fun _=>rfl⟩ (Nat.le_trans (size_of_RL ra) (by decide)) (Nat.le_trans (size_of_RL rb) (by decide)) (Nat.le_trans (size_of_RL rc) (by decide)) w R
 have eq0:((ratB a).toList == [48])=true:=by rw [ratB_eq_zero];exact decide_eq_true q0
 have pq0:(ratB a).toList=[48]:=(zero_iff _).2 q0
 have eq1:((ratB b).toList == [48])=true:=by rw [ratB_eq_zero];exact decide_eq_true q1
 have pq1:(ratB b).toList=[48]:=(zero_iff _).2 q1
 have eq2:((ratB c).toList == [48])=true:=by rw [ratB_eq_zero];exact decide_eq_true q2
 have pq2:(ratB c).toList=[48]:=(zero_iff _).2 q2
 have C1:=Lib.hid c1
 clear c1 q0 q1 q2 ra rb rc
 have hb:=Below.refl w.heap.size w
 go_enter Tryz.func16,Tryz.ntmps16
 go_upto_region 1 with fail
 refine wp_alloc1 (fun w1 a0 hk=>?_)
 replace hb:=hb.trans (hk.mono hb.size)
 clear hk
 obtain ⟨Aa,Ab,Ac⟩:=ce3 a0
 go_wp2_with (go_at_call 21;with_reducible refine (zL hb (C1.out _ (R.below hb))).mono ?_;clear hb;rintro e w1 ⟨rfl,hk,hb⟩;clear Aa Ab Ac;replace a0:=zB hk a0;obtain ⟨Aa,Ab,Ac⟩:=ce3 a0;clear hk)
 first | go_ret | go_ret2 | go_ret3
 exact ⟨rfl,hb⟩
theorem normal_ok (a b c:Rat) (ra:RL a 200) (rb:RL b 200) (rc:RL c 200) (h:a≠0∨b≠0∨c≠0) (w:World) (R:EnvV w) :
   Calls Tryz.prog 16 #[.agg #[.string (ratB a),.string (ratB b),.string (ratB c)]] w (Ret w (.int .i64 0)):=by
 by_cases q0:a=0
 · by_cases q1:b=0
   · exact normal_2 a b c ra rb rc q0 q1 ((h.resolve_left (fun k=>k q0)).resolve_left (fun k=>k q1)) w R
   · exact normal_1 a b c ra rb rc q0 q1 w R
 · exact normal_0 a b c ra rb rc q0 w R
theorem normal_bad  (ta tb tc:ByteArray) (h:¬ (IsRat ta.data.toList∧IsRat tb.data.toList∧IsRat tc.data.toList)) (za:ta.size≤100000) (zb:tb.size≤100000) (zc:tc.size≤100000) (w:World) (R:EnvV w) :
   Calls Tryz.prog 16 #[.agg #[.string ta,.string tb,.string tc]] w (Ret w (.int .i64 2)):=by
 have c1:=right3 ta tb tc false ⟨(fun h=>by cases h),fun k=>absurd k h⟩ za zb zc
 have C1:=Lib.hid c1
 clear c1 h za zb zc
 have hb:=Below.refl w.heap.size w
 go_enter Tryz.func16,Tryz.ntmps16
 go_upto_region 1 with fail
 refine wp_alloc1 (fun w1 a0 hk=>?_)
 replace hb:=hb.trans (hk.mono hb.size)
 clear hk
 obtain ⟨Aa,Ab,Ac⟩:=ce3 a0
 go_wp2_with (go_at_call 21;with_reducible refine (zL hb (C1.out _ (R.below hb))).mono ?_;clear hb;rintro e w1 ⟨rfl,hk,hb⟩;clear Aa Ab Ac;replace a0:=zB hk a0;obtain ⟨Aa,Ab,Ac⟩:=ce3 a0;clear hk)
 first | go_ret | go_ret2 | go_ret3
 exact ⟨rfl,hb⟩
theorem normal_err (ta tb tc:ByteArray) (v:Int) (h:NErr ta tb tc v) (za:ta.size≤100000) (zb:tb.size≤100000) (zc:tc.size≤100000) (w:World) (R:EnvV w) :
   Calls Tryz.prog 16 #[.agg #[.string ta,.string tb,.string tc]] w (Ret w (.int .i64 v)):=by
 rcases h with ⟨h,rfl⟩ | ⟨⟨rfl,rfl,rfl⟩,rfl⟩
 · exact normal_bad ta tb tc h za zb zc w R
 · have r0:RL (0:Rat) 200:=rn_0.rl
   have h:=normal_z 0 0 0 r0 r0 r0 rfl rfl rfl w R
   rwa [rb_0] at h
theorem normal_cases (ta tb tc:ByteArray) (sa:ta.size≤24) (sb:tb.size≤24) (sc:tc.size≤24) :
   (∃ v,NErr ta tb tc v)∨∃ a b c:Rat,ta=ratB a∧tb=ratB b∧tc=ratB c∧RN a 24 24∧RN b 24 24∧RN c 24 24∧(a≠0∨b≠0∨c≠0):=by
 by_cases h:IsRat ta.data.toList∧IsRat tb.data.toList∧IsRat tc.data.toList
 · obtain ⟨a,rfl,_⟩:=rat_of h.1
   obtain ⟨b,rfl,_⟩:=rat_of h.2.1
   obtain ⟨c,rfl,_⟩:=rat_of h.2.2
   by_cases g:a=0∧b=0∧c=0
   · obtain ⟨rfl,rfl,rfl⟩:=g
     exact Or.inl ⟨17,Or.inr ⟨⟨rb_0,rb_0,rb_0⟩,rfl⟩⟩
   · refine Or.inr ⟨a,b,c,rfl,rfl,rfl,RN_of (RL_of_size sa),RN_of (RL_of_size sb),RN_of (RL_of_size sc),?_⟩
     by_cases q0:a=0
     · by_cases q1:b=0
       · exact Or.inr (Or.inr (fun q2=>g ⟨q0,q1,q2⟩))
       · exact Or.inr (Or.inl q1)
     · exact Or.inl q0
 · exact Or.inl ⟨2,Or.inl ⟨h,rfl⟩⟩
end Go.Proofs.YtejfiegmdllfbaaGreatDoor.Kl
