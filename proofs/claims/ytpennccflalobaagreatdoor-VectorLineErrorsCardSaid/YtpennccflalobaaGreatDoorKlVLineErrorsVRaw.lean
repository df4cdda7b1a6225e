import Derived.Test.YtpennccflalobaaGreatDoorKlVLineErrorsVJ
import Derived.Test.YtpennccflalobaaGreatDoorKlBVYZ
namespace Go.Proofs.YtpennccflalobaaGreatDoor.Kl
open Go Go.RowKit
set_option maxRecDepth 100000
set_option maxHeartbeats 8000000
theorem rat_of {s:ByteArray} (h:IsRat s.data.toList):∃ q:Rat,s=ratB q∧RL q 200:=by
 obtain ⟨q,e,hq⟩:=h
 refine ⟨q,?_,hq⟩
 unfold ratB strOf
 rw [← e]
theorem isRat_0 : IsRat (⟨#[48]⟩:ByteArray).data.toList:=(isRat_nos (l:=[48]) (by decide)).2 (by decide +kernel)
theorem not_rat_empty : ¬ IsRat (⟨#[]⟩:ByteArray).data.toList:=fun h=>absurd ((isRat_nos (l:=[]) (by decide)).1 h) (by decide +kernel)
theorem check2_raw  (a b:ByteArray) (v:Int) (h0:(IsRat a.data.toList∧IsRat b.data.toList)→v=0) (h2:¬ (IsRat a.data.toList∧IsRat b.data.toList)→v=2) (za:a.size≤100000) (zb:b.size≤100000) (w:World) (R:EnvV w) :
   Calls Tryz.prog 17 #[.agg #[.string a,.string b]] w (Ret w (.int .i64 v)):=by
 have c1:=fun (w:World) (R:EnvV w)=>numCheck2 a b v h0 h2 za zb w R.toEnvR
 have C1:=Lib.hid c1
 clear c1 h0 h2 za zb
 have hb:=Below.refl w.heap.size w
 go_enter Tryz.func17,Tryz.ntmps17
 go_upto_region 1 with fail
 refine wp_alloc1 (fun w1 a0 hk=>?_)
 replace hb:=hb.trans (hk.mono hb.size)
 clear hk
 obtain ⟨Aa,Ab⟩:=ce2 a0
 go_wp2_with (go_at_call 67;with_reducible refine (zL hb (C1.out _ (R.below hb))).mono ?_;clear hb;rintro e w1 ⟨rfl,hk,hb⟩;clear Aa Ab;replace a0:=zB hk a0;obtain ⟨Aa,Ab⟩:=ce2 a0;clear hk)
 first | go_ret | go_ret2 | go_ret3
 exact ⟨rfl,hb⟩
theorem checkPtsRaw_w (blk n c:Nat) (ps:List (ByteArray × ByteArray)) (cs:List Int) (hn:ps.length=n) (hl:cs.length=n) (_hnb:n≤10) (v:Int) (hv:firstNZ cs=v)
   (hp:∀ (j:Nat) (p:ByteArray × ByteArray) (t:Int),ps[j]? = some p→cs[j]? = some t→CV 17 #[.agg #[.string p.1,.string p.2]] (.int .i64 t)) (w:World) (R:EnvV w)
   (hc:∀ (j:Nat) (p:ByteArray × ByteArray),ps[j]? = some p→w.cell? ⟨blk,j*2,none⟩=some (.string p.1)∧w.cell? ⟨blk,j*2+1,none⟩=some (.string p.2)) :
   Calls Tryz.prog 95 #[.slice (some ⟨blk,0,none⟩) n c] w (Ret w (.int .i64 v)):=by
 have HC:=Lib.hid hc
 have HP:=Lib.hid hp
 have HV:=Lib.hid hv
 have HN:=Lib.hid hn
 have HL:=Lib.hid hl
 clear hc hp hv hn hl
 go_enter Tryz.func95,Tryz.ntmps95
 go_wp2
 go_loopw [8] (fun i wr=>∃ k:Nat,k≤n∧i = .int .i64 k∧(∀ t,t ∈ cs.take k→t=0)∧Below w.heap.size w wr) (fun i _=>n - (intOf i).toNat)
 case atStart=>exact ⟨0,Nat.zero_le _,rfl,by simp,Below.refl _ _⟩
 case round =>
   obtain ⟨k,hk,rfl,hall,hb⟩:=hrel
   have HA:=Lib.hid hall
   clear hall
   by_cases hlt:k < n
   · obtain ⟨⟨p,q⟩,ht⟩:∃ t,ps[k]? = some t:=⟨_,List.getElem?_eq_getElem (by rw [HN.out];exact hlt)⟩
     obtain ⟨t,hu⟩:∃ t,cs[k]? = some t:=⟨_,List.getElem?_eq_getElem (by rw [HL.out];exact hlt)⟩
     have x0:wr.cell? ⟨blk,k*2,none⟩=some (.string p):=zC hb (HC.out k _ ht).1
     have x1:wr.cell? ⟨blk,k*2+1,none⟩=some (.string q):=zC hb (HC.out k _ ht).2
     have CR:=Lib.hid (HP.out k _ _ ht hu)
     have HT:=Lib.hid hu
     clear ht hu
     by_cases hz:t=0
     · have HF:=Lib.hid hz
       go_wp2_with (go_at_call 17;(refine calls_alloc1 (fun w1 a9 hk=>?_));replace hb:=hb.trans (hk.mono hb.size);clear hk a9;(with_reducible refine (zK hb (CR.out _ (R.below hb))).mono ?_);clear hb;rintro e w1 ⟨rfl,hk2,hb⟩;clear hk2)
       go_roundw
       case rel =>
         refine ⟨k+1,by omega,by go_num,fun u hu=>?_,hb⟩
         rw [List.take_add_one,HT.out] at hu
         rcases List.mem_append.1 hu with h | h
         · exact HA.out u h
         · have:u=t:=by simpa using h
           rw [this];exact HF.out
       case measure=>simp [intOf];omega
     · have HG:Hid (t=v):=Lib.hid ((firstNZ_at cs k t HA.out HT.out hz).symm.trans HV.out)
       go_wp2_with (go_at_call 17;(refine calls_alloc1 (fun w1 a9 hk=>?_));replace hb:=hb.trans (hk.mono hb.size);clear hk a9;(with_reducible refine (zK hb (CR.out _ (R.below hb))).mono ?_);clear hb;rintro e w1 ⟨rfl,hk2,hb⟩;clear hk2)
       go_ret
       exact ⟨retI HG.out,hb⟩
   · have ek:k=n:=by omega
     have HG:Hid (0=v):=Lib.hid (by rw [← HV.out];symm;exact firstNZ_zero cs (fun t ht=>HA.out t (by rw [List.take_of_length_le (by rw [HL.out];omega)];exact ht)))
     go_wp2
     go_ret
     exact ⟨retI HG.out,hb⟩
set_option maxRecDepth 512 in
theorem checkPts2Raw (a0 a1 b0 b1:ByteArray) (ea eb v:Int) (ca:CV 17 #[.agg #[.string a0,.string a1]] (.int .i64 ea)) (cb:CV 17 #[.agg #[.string b0,.string b1]] (.int .i64 eb)) (hv:firstNZ [ea,eb]=v) (w:World) (R:EnvV w) :
   Calls Tryz.prog 95 #[.slice (some ⟨w.heap.size,0,none⟩) 2 2] (w.alloc (Obj.cells #[Value.string a0,Value.string a1,Value.string b0,Value.string b1] 30)) (Ret w (.int .i64 v)):=by
 have hba:Below w.heap.size w (w.alloc (Obj.cells #[Value.string a0,Value.string a1,Value.string b0,Value.string b1] 30)):=(Below.refl _ _).alloc (Nat.le_refl _) _
 refine (checkPtsRaw_w w.heap.size 2 2 [(a0,a1),(b0,b1)] [ea,eb] rfl rfl (by decide) v hv ?_ _ (R.below hba) ?_).mono fun e w' h=>⟨h.1,hba.trans (h.2.mono hba.size)⟩
 · intro j p t h1 h2
   match j,h1,h2 with
   | 0,h1,h2=>injection h1 with h1;injection h2 with h2;subst h1 h2;exact ca
   | 1,h1,h2=>injection h1 with h1;injection h2 with h2;subst h1 h2;exact cb
   | j+2,h1,_=>simp at h1
 · intro j t h
   match j,h with
   | 0,h=>injection h with h;subst h;simp [go_sem]
   | 1,h=>injection h with h;subst h;simp [go_sem]
   | j+2,h=>simp at h
theorem checkLine_bad  (a b c:ByteArray) (h:¬ (IsRat a.data.toList∧IsRat b.data.toList∧IsRat c.data.toList)) (za:a.size≤100000) (zb:b.size≤100000) (zc:c.size≤100000) (w:World) (R:EnvV w) :
   Calls Tryz.prog 106 #[.agg #[.string a,.string b,.string c]] w (Ret w (.int .i64 2)):=by
 have c1:∀ w,EnvV w→Calls Tryz.prog 67 #[.slice (some ⟨w.heap.size,0,none⟩) 3 3] (w.alloc (Obj.cells #[Value.string a,Value.string b,Value.string c] 22)) (Ret w (.int .i64 2)):=fun w R=>numCheck3 a b c 2 (fun k=>absurd k h) (fun _=>rfl) za zb zc w R.toEnvR
 have C1:=Lib.hid c1
 clear c1 h za zb zc
 have hb:=Below.refl w.heap.size w
 go_enter Tryz.func106,Tryz.ntmps106
 go_upto_region 1 with fail
 refine wp_alloc1 (fun w1 a0 hk=>?_)
 replace hb:=hb.trans (hk.mono hb.size)
 clear hk
 obtain ⟨Aa,Ab,Ac⟩:=ce3 a0
 go_wp2_with (go_at_call 67;with_reducible refine (zL hb (C1.out _ (R.below hb))).mono ?_;clear hb;rintro e w1 ⟨rfl,hk,hb⟩;clear Aa Ab Ac;replace a0:=zB hk a0;obtain ⟨Aa,Ab,Ac⟩:=ce3 a0;clear hk)
 first | go_ret | go_ret2 | go_ret3
 exact ⟨rfl,hb⟩
theorem ofLine_bad0  (a b c:ByteArray) (ia:¬ IsRat a.data.toList) (za:a.size≤100000) (_zb:b.size≤100000) (_zc:c.size≤100000) (w:World) (R:EnvV w) :
   Calls Tryz.prog 60 #[.agg #[.string a,.string b,.string c]] w (Ret w (.int .i64 2)):=by
 have c1:=fun (w:World) (R:EnvV w)=>refRRight_any a false ⟨(fun h=>by cases h),fun h=>absurd h ia⟩ za w R.toEnvR
 have C1:=Lib.hid c1
 clear c1 ia za _zb _zc
 have hb:=Below.refl w.heap.size w
 go_enter Tryz.func60,Tryz.ntmps60
 go_upto_region 1 with fail
 refine wp_alloc1 (fun w1 a0 hk=>?_)
 replace hb:=hb.trans (hk.mono hb.size)
 clear hk
 obtain ⟨Aa,Ab,Ac⟩:=ce3 a0
 go_wp2_with (go_at_call 28;with_reducible refine (chVB hb R C1).mono ?_;clear hb;rintro e w1 ⟨rfl,hk,hb⟩;clear Aa Ab Ac;replace a0:=zB hk a0;obtain ⟨Aa,Ab,Ac⟩:=ce3 a0;clear hk)
 first | go_ret | go_ret2 | go_ret3
 exact ⟨rfl,hb⟩
theorem ofLine_bad1  (a b c:ByteArray) (ia:IsRat a.data.toList) (ib:¬ IsRat b.data.toList) (za:a.size≤100000) (zb:b.size≤100000) (_zc:c.size≤100000) (w:World) (R:EnvV w) :
   Calls Tryz.prog 60 #[.agg #[.string a,.string b,.string c]] w (Ret w (.int .i64 2)):=by
 have c1:CV 28 #[.string a] (.bool true):=fun w R=>refRRight_any a true ⟨fun _=>ia,fun _=>rfl⟩ za w R.toEnvR
 have c2:=fun (w:World) (R:EnvV w)=>refRRight_any b false ⟨(fun h=>by cases h),fun h=>absurd h ib⟩ zb w R.toEnvR
 have C1:=Lib.hid c1
 have C2:=Lib.hid c2
 clear c1 c2 ia ib za zb _zc
 have hb:=Below.refl w.heap.size w
 go_enter Tryz.func60,Tryz.ntmps60
 go_upto_region 1 with fail
 refine wp_alloc1 (fun w1 a0 hk=>?_)
 replace hb:=hb.trans (hk.mono hb.size)
 clear hk
 obtain ⟨Aa,Ab,Ac⟩:=ce3 a0
 go_wp2_with ((go_at_call 28;first | with_reducible refine (chVB hb R C1).mono ?_ | with_reducible refine (chVB hb R C2).mono ?_);clear hb;rintro e w1 ⟨rfl,hk,hb⟩;clear Aa Ab Ac;replace a0:=zB hk a0;obtain ⟨Aa,Ab,Ac⟩:=ce3 a0;clear hk)
 first | go_ret | go_ret2 | go_ret3
 exact ⟨rfl,hb⟩
theorem ofLine_bad2  (a b c:ByteArray) (ia:IsRat a.data.toList) (ib:IsRat b.data.toList) (ic:¬ IsRat c.data.toList) (za:a.size≤100000) (zb:b.size≤100000) (zc:c.size≤100000) (w:World) (R:EnvV w) :
   Calls Tryz.prog 60 #[.agg #[.string a,.string b,.string c]] w (Ret w (.int .i64 2)):=by
 have c1:CV 28 #[.string a] (.bool true):=fun w R=>refRRight_any a true ⟨fun _=>ia,fun _=>rfl⟩ za w R.toEnvR
 have c2:CV 28 #[.string b] (.bool true):=fun w R=>refRRight_any b true ⟨fun _=>ib,fun _=>rfl⟩ zb w R.toEnvR
 have c3:=fun (w:World) (R:EnvV w)=>refRRight_any c false ⟨(fun h=>by cases h),fun h=>absurd h ic⟩ zc w R.toEnvR
 have C1:=Lib.hid c1
 have C2:=Lib.hid c2
 have C3:=Lib.hid c3
 clear c1 c2 c3 ia ib ic za zb zc
 have hb:=Below.refl w.heap.size w
 go_enter Tryz.func60,Tryz.ntmps60
 go_upto_region 1 with fail
 refine wp_alloc1 (fun w1 a0 hk=>?_)
 replace hb:=hb.trans (hk.mono hb.size)
 clear hk
 obtain ⟨Aa,Ab,Ac⟩:=ce3 a0
 go_wp2_with ((go_at_call 28;first | with_reducible refine (chVB hb R C1).mono ?_ | with_reducible refine (chVB hb R C2).mono ?_ | with_reducible refine (chVB hb R C3).mono ?_);clear hb;rintro e w1 ⟨rfl,hk,hb⟩;clear Aa Ab Ac;replace a0:=zB hk a0;obtain ⟨Aa,Ab,Ac⟩:=ce3 a0;clear hk)
 first | go_ret | go_ret2 | go_ret3
 exact ⟨rfl,hb⟩
theorem ofLine_bad (a b c:ByteArray) (h:¬ (IsRat a.data.toList∧IsRat b.data.toList∧IsRat c.data.toList)) (za:a.size≤100000) (zb:b.size≤100000) (zc:c.size≤100000) (w:World) (R:EnvV w) :
   Calls Tryz.prog 60 #[.agg #[.string a,.string b,.string c]] w (Ret w (.int .i64 2)):=by
 by_cases ia:IsRat a.data.toList
 · by_cases ib:IsRat b.data.toList
   · exact ofLine_bad2 a b c ia ib (fun ic=>h ⟨ia,ib,ic⟩) za zb zc w R
   · exact ofLine_bad1 a b c ia ib za zb zc w R
 · exact ofLine_bad0 a b c ia za zb zc w R
theorem ofLine_0 (a b c:Rat) (q0:a≠0) (r1:RL a 200) (r2:RL b 200) (r3:RL c 200) (w:World) (R:EnvV w) :
   Calls Tryz.prog 60 #[.agg #[.string (ratB a),.string (ratB b),.string (ratB c)]] w (Ret w (.int .i64 0)):=by
 have c1:CV 28 #[.string (ratB a)] (.bool true):=fun w R=>refRRight_any _ true ⟨fun _=>isRat_of r1,fun _=>rfl⟩ (Nat.le_trans (size_of_RL r1) (by decide)) w R.toEnvR
 have c2:CV 28 #[.string (ratB b)] (.bool true):=fun w R=>refRRight_any _ true ⟨fun _=>isRat_of r2,fun _=>rfl⟩ (Nat.le_trans (size_of_RL r2) (by decide)) w R.toEnvR
 have c3:CV 28 #[.string (ratB c)] (.bool true):=fun w R=>refRRight_any _ true ⟨fun _=>isRat_of r3,fun _=>rfl⟩ (Nat.le_trans (size_of_RL r3) (by decide)) w R.toEnvR
 have eq0:((ratB a).toList == [48])=false:=by rw [ratB_eq_zero];exact decide_eq_false q0
 have pq0:¬ (ratB a).toList=[48]:=fun h=>q0 ((zero_iff _).1 h)
 have C1:=Lib.hid c1
 have C2:=Lib.hid c2
 have C3:=Lib.hid c3
 clear c1 c2 c3 q0 r1 r2 r3
 have hb:=Below.refl w.heap.size w
 go_enter Tryz.func60,Tryz.ntmps60
 go_upto_region 1 with fail
 refine wp_alloc1 (fun w1 a0 hk=>?_)
 replace hb:=hb.trans (hk.mono hb.size)
 clear hk
 obtain ⟨Aa,Ab,Ac⟩:=ce3 a0
 go_wp2_with ((go_at_call 28;first | with_reducible refine (chVB hb R C1).mono ?_ | with_reducible refine (chVB hb R C2).mono ?_ | with_reducible refine (chVB hb R C3).mono ?_);clear hb;rintro e w1 ⟨rfl,hk,hb⟩;clear Aa Ab Ac;replace a0:=zB hk a0;obtain ⟨Aa,Ab,Ac⟩:=ce3 a0;clear hk)
 first | go_ret | go_ret2 | go_ret3
 exact ⟨rfl,hb⟩
theorem ofLine_1 (a b c:Rat) (q0:a=0) (q1:b≠0) (r1:RL a 200) (r2:RL b 200) (r3:RL c 200) (w:World) (R:EnvV w) :
   Calls Tryz.prog 60 #[.agg #[.string (ratB a),.string (ratB b),.string (ratB c)]] w (Ret w (.int .i64 0)):=by
 have c1:CV 28 #[.string (ratB a)] (.bool true):=fun w R=>refRRight_any _ true ⟨fun _=>isRat_of r1,fun _=>rfl⟩ (Nat.le_trans (size_of_RL r1) (by decide)) w R.toEnvR
 have c2:CV 28 #[.string (ratB b)] (.bool true):=fun w R=>refRRight_any _ true ⟨fun _=>isRat_of r2,fun _=>rfl⟩ (Nat.le_trans (size_of_RL r2) (by decide)) w R.toEnvR
 have c3:CV 28 #[.string (ratB c)] (.bool true):=fun w R=>refRRight_any _ true ⟨fun _=>isRat_of r3,fun _=>rfl⟩ (Nat.le_trans (size_of_RL r3) (by decide)) w R.toEnvR
 have eq0:((ratB a).toList == [48])=true:=by rw [ratB_eq_zero];exact decide_eq_true q0
 have pq0:(ratB a).toList=[48]:=(zero_iff _).2 q0
 have eq1:((ratB b).toList == [48])=false:=by rw [ratB_eq_zero];exact decide_eq_false q1
 have pq1:¬ (ratB b).toList=[48]:=fun h=>q1 ((zero_iff _).1 h)
 have C1:=Lib.hid c1
 have C2:=Lib.hid c2
 have C3:=Lib.hid c3
 clear c1 c2 c3 q0 q1 r1 r2 r3
 have hb:=Below.refl w.heap.size w
 go_enter Tryz.func60,Tryz.ntmps60
 go_upto_region 1 with fail
 refine wp_alloc1 (fun w1 a0 hk=>?_)
 replace hb:=hb.trans (hk.mono hb.size)
 clear hk
 obtain ⟨Aa,Ab,Ac⟩:=ce3 a0
 go_wp2_with ((go_at_call 28;first | with_reducible refine (chVB hb R C1).mono ?_ | with_reducible refine (chVB hb R C2).mono ?_ | with_reducible refine (chVB hb R C3).mono ?_);clear hb;rintro e w1 ⟨rfl,hk,hb⟩;clear Aa Ab Ac;replace a0:=zB hk a0;obtain ⟨Aa,Ab,Ac⟩:=ce3 a0;clear hk)
 first | go_ret | go_ret2 | go_ret3
 exact ⟨rfl,hb⟩
theorem ofLine_2 (a b c:Rat) (q0:a=0) (q1:b=0) (r1:RL a 200) (r2:RL b 200) (r3:RL c 200) (w:World) (R:EnvV w) :
   Calls Tryz.prog 60 #[.agg #[.string (ratB a),.string (ratB b),.string (ratB c)]] w (Ret w (.int .i64 17)):=by
 have c1:CV 28 #[.string (ratB a)] (.bool true):=fun w R=>refRRight_any _ true ⟨fun _=>isRat_of r1,fun _=>rfl⟩ (Nat.le_trans (size_of_RL r1) (by decide)) w R.toEnvR
 have c2:CV 28 #[.string (ratB b)] (.bool true):=fun w R=>refRRight_any _ true ⟨fun _=>isRat_of r2,fun _=>rfl⟩ (Nat.le_trans (size_of_RL r2) (by decide)) w R.toEnvR
 have c3:CV 28 #[.string (ratB c)] (.bool true):=fun w R=>refRRight_any _ true ⟨fun _=>isRat_of r3,fun _=>rfl⟩ (Nat.le_trans (size_of_RL r3) (by decide)) w R.toEnvR
 have eq0:((ratB a).toList == [48])=true:=by rw [ratB_eq_zero];exact decide_eq_true q0
 have pq0:(ratB a).toList=[48]:=(zero_iff _).2 q0
 have eq1:((ratB b).toList == [48])=true:=by rw [ratB_eq_zero];exact decide_eq_true q1
 have pq1:(ratB b).toList=[48]:=(zero_iff _).2 q1
 have C1:=Lib.hid c1
 have C2:=Lib.hid c2
 have C3:=Lib.hid c3
 clear c1 c2 c3 q0 q1 r1 r2 r3
 have hb:=Below.refl w.heap.size w
 go_enter Tryz.func60,Tryz.ntmps60
 go_upto_region 1 with fail
 refine wp_alloc1 (fun w1 a0 hk=>?_)
 replace hb:=hb.trans (hk.mono hb.size)
 clear hk
 obtain ⟨Aa,Ab,Ac⟩:=ce3 a0
 go_wp2_with ((go_at_call 28;first | with_reducible refine (chVB hb R C1).mono ?_ | with_reducible refine (chVB hb R C2).mono ?_ | with_reducible refine (chVB hb R C3).mono ?_);clear hb;rintro e w1 ⟨rfl,hk,hb⟩;clear Aa Ab Ac;replace a0:=zB hk a0;obtain ⟨Aa,Ab,Ac⟩:=ce3 a0;clear hk)
 first | go_ret | go_ret2 | go_ret3
 exact ⟨rfl,hb⟩
theorem meet_err  (ta0 ta1 ta2 tb0 tb1 tb2:ByteArray) (ea eb v:Int) (ca:CV 106 #[.agg #[.string ta0,.string ta1,.string ta2]] (.int .i64 ea)) (cb:CV 106 #[.agg #[.string tb0,.string tb1,.string tb2]] (.int .i64 eb)) (hv:firstNZ [ea,eb]=v) (q0:v≠0) (w:World) (R:EnvV w) :
   Calls Tryz.prog 57 #[.agg #[.string ta0,.string ta1,.string ta2],.agg #[.string tb0,.string tb1,.string tb2]] w (Ret w (.tuple #[.agg #[.string ⟨#[]⟩,.string ⟨#[]⟩],.bool false,.int .i64 v])):=by
 have c1:=ca
 have c2:=cb
 have c3:=fun (w:World) (R:EnvV w)=>orErr2 ea eb v hv w R.toEnvR
 have eq0:(v == 0)=false:=beq_eq_false_iff_ne.2 q0
 have pq0:¬ v=0:=q0
 have C1:=Lib.hid c1
 have C2:=Lib.hid c2
 have C3:=Lib.hid c3
 clear c1 c2 c3 q0 ca cb hv
 have hb:=Below.refl w.heap.size w
 go_enter Tryz.func57,Tryz.ntmps57
 go_upto_region 1 with fail
 refine wp_alloc3 (fun w1 a0 a1 a2 hk=>?_)
 replace hb:=hb.trans (hk.mono hb.size)
 clear hk
 obtain ⟨Ac,Ad,Ae⟩:=ce3 a0
 obtain ⟨Af,Ag,Ah⟩:=ce3 a1
 obtain ⟨Aa,Ai,Ab,Aj⟩:=cf2 a2
 go_upto_region 1 with fail
 obtain ⟨Am,An,Ao⟩:=cy3 a0
 obtain ⟨Ap,Aq,Ar⟩:=cy3 a1
 obtain ⟨As,At⟩:=cy2 a2
 have Ak:=rrV C1 R hb
 have Al:=rrV C2 R hb
 refine wp_region_tail_below 4 (by first | assumption | kernel_rfl) (by kernel_rfl) ?_
 simp only [List.take_succ_cons,List.take_zero,List.drop_succ_cons,List.drop_zero]
 repeat (quiet_step (first | (with_reducible exact Ak.out _ _) | (with_reducible exact Al.out _ _)))
 refine wpQuiet_nil ?_
 intro w1 hw'
 obtain ⟨hk,hb⟩:=zQ hb hw'
 clear Ac Ad Ae Af Ag Ah Aa Ab Ai Aj
 replace a0:=zB hk a0
 replace a1:=zB hk a1
 replace a2:=zB hk a2
 obtain ⟨Ac,Ad,Ae⟩:=ce3 a0
 obtain ⟨Af,Ag,Ah⟩:=ce3 a1
 obtain ⟨Aa,Ai,Ab,Aj⟩:=cf2 a2
 clear Ak Al Am An Ao Ap Aq Ar As At
 clear hk hw'
 go_wp2_with (go_at_call 69;with_reducible refine (zL hb (C3.out _ (R.below hb))).mono ?_;clear hb;rintro e w1 ⟨rfl,hk,hb⟩;clear Ac Ad Ae Af Ag Ah Aa Ab Ai Aj;replace a0:=zB hk a0;replace a1:=zB hk a1;replace a2:=zB hk a2;obtain ⟨Ac,Ad,Ae⟩:=ce3 a0;obtain ⟨Af,Ag,Ah⟩:=ce3 a1;obtain ⟨Aa,Ai,Ab,Aj⟩:=cf2 a2;clear hk)
 refine bodyPost_ret (v:=.tuple #[.agg #[.string ⟨#[]⟩,.string ⟨#[]⟩],.bool false,.int .i64 v]) (by simp [results,Tryz.results57,go_sem,Aa,Ab]) rfl ⟨rfl,?_⟩
 repeat' (first | exact hb | refine Below.setCell ?_ (by first | exact Nat.le_refl _ | (dsimp only;omega)) _)
end Go.Proofs.YtpennccflalobaaGreatDoor.Kl
